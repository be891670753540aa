import PyProof.Rows.All
import Wide.All
import OpenK.AllK
import Wide.FinOn
import Lean
import PyProof.EqAt
import PyProof.EqKinds
import PyProof.TupleCall
import PyProof.NeData
import PyProof.DictRoadsH
import Wide.Seal
import PyProof.CompMap
import PyProof.DictIter
import PyProof.DictWalks
import PyProof.CompUse
import PyProof.P3In
import OpenK.KOwn
import KE.KTryMore
import PyProof.RulesAs
import PyProof.ExcArgs
import PyProof.NsDelKeeps
import KE.KIsAll
import OpenK.KDescr
import PyProof.ZipIter
import PyProof.TupleIter
import KE.KRevSl
import PyProof.Rows.SortWalk
import PyProof.MeetsSeq
import KE.KDictSum
import PyProof.EnumMake
import PyProof.EnumFor
import PyProof.EnumStmt
import PyProof.ListRange
import KE.KSortKey
import PyProof.Rows.SortStr
import PyProof.Rows.CallKwBuiltin
import KE.KTab
import PyProof.ConsumeWalk
import PyProof.Comp
import PyProof.ForAny
import PyProof.Rows.StrJoin2
import PyProof.CallStr
import KE.KSortTup
import PySem.Challenge.RW_askring_k30_whole_counters_and_places_te
namespace PySem.W.Fast
def tw10010792950670598917:=True
def tw10046580846166675046:=True
def tw10111246956742390262:=True
def tw10154256958160933535:=True
def tw10160841596654738992:=True
def tw10187389420656385411:=True
def tw10241513488745802109:=True
def tw10338291175330725720:=True
def tw1038794685556253588:=True
def tw10388837352184806111:=True
def tw104130202638307425:=True
def tw10436228405444348044:=True
def tw10443431627768317221:=True
def tw1079533337191353388:=True
def tw10843458254367122178:=True
def tw10847080846616392726:=True
def tw10874713719007171089:=True
def tw10875406476399899851:=True
def tw10892470892571469186:=True
def tw10904041964508100352:=True
def tw10955338179170340103:=True
def tw1096219084028447912:=True
def tw10963866572253348711:=True
def tw1100409716060598099:=True
def tw11013008858407396098:=True
def tw1102398801342289723:=True
def tw1105442140455276375:=True
def tw11062150290434937162:=True
def tw11097583923915710956:=True
def tw11118588545350516621:=True
def tw1112412491117513354:=True
def tw11135325458277859045:=True
def tw11178888132147687776:=True
def tw11197602091592141820:=True
def tw11208377425543340535:=True
def tw11284885891613899272:=True
def tw1130368283292810791:=True
def tw11394685051330430124:=True
def tw11416379492902430956:=True
def tw115811243406248096:=True
def tw11652698144211975467:=True
def tw11742549156314786011:=True
def tw11767901575152542235:=True
def tw11853631716564227115:=True
def tw11864321968414602319:=True
def tw11874557204785826115:=True
def tw1190363041389047072:=True
def tw11935748076059022340:=True
def tw11953543429887372198:=True
def tw11956538260283666259:=True
def tw11969586690463874071:=True
def tw11995291230449141821:=True
def tw12000139603898798795:=True
def tw12048975318159654027:=True
def tw12061405293106377432:=True
def tw12112819176621849062:=True
def tw12251120068410795126:=True
def tw12286684192202630756:=True
def tw12317637821711673521:=True
def tw12402682552335102754:=True
def tw12414081207699293300:=True
def tw12461721834670646654:=True
def tw12504483858591546788:=True
def tw12549865506907136450:=True
def tw1260882223472031311:=True
def tw12732015294860960373:=True
def tw12754990960419820483:=True
def tw12764132188126171434:=True
def tw12893960395392864053:=True
def tw12900314532310523120:=True
def tw12905358404949411468:=True
def tw12925592420617819146:=True
def tw12969779981409456870:=True
def tw13021486103264981306:=True
def tw13050691547785643196:=True
def tw13061434233768489136:=True
def tw13122757664449067353:=True
def tw1325563805129688297:=True
def tw13272493929740561744:=True
def tw13283432170770249820:=True
def tw13305845849903423376:=True
def tw13348499387567085008:=True
def tw1339175921609809239:=True
def tw13436629880728133925:=True
def tw13444687154457876126:=True
def tw13514231947848202714:=True
def tw13555627460676479800:=True
def tw13566164201338530131:=True
def tw1357657042316751262:=True
def tw13622544257412420537:=True
def tw13651644188639802079:=True
def tw13734809560846985930:=True
def tw13788520882601457445:=True
def tw13837558972032972832:=True
def tw13847977409984928495:=True
def tw1389806263168531258:=True
def tw13917201886732524039:=True
def tw1397370669169668832:=True
def tw13985748357492235598:=True
def tw13995095599906016951:=True
def tw14028744969061043652:=True
def tw140420621820269181:=True
def tw14179237691806202761:=True
def tw14185564812692133048:=True
def tw14189610646168279537:=True
def tw14223449214515042367:=True
def tw14304225663527988436:=True
def tw1439218827926979815:=True
def tw14401971383273142704:=True
def tw14406789073874309993:=True
def tw14412180758101886161:=True
def tw14455184999074669094:=True
def tw14485233696452647245:=True
def tw14505633875617615417:=True
def tw14540582714870061639:=True
def tw14652661052877270123:=True
def tw14670238572282652346:=True
def tw1470473400222381802:=True
def tw14715299096399786262:=True
def tw14815789958720466428:=True
def tw1483486827122346477:=True
def tw14889658660273839287:=True
def tw14906808361724397198:=True
def tw14918716795535544361:=True
def tw14932427346354689705:=True
def tw14944753112513592701:=True
def tw14994008102137657438:=True
def tw15293664396870528860:=True
def tw15295838409677042786:=True
def tw15302934003194065568:=True
def tw15349182241865109674:=True
def tw15369404081590615101:=True
def tw15400804406422229925:=True
def tw154253755705100996:=True
def tw15439654482570536460:=True
def tw15589051471029997738:=True
def tw15678074048952605173:=True
def tw15689326265998792483:=True
def tw15731269851868065963:=True
def tw15753549168359742779:=True
def tw1577516027416310314:=True
def tw15849344382948658875:=True
def tw15850918407682061163:=True
def tw1586519836029714882:=True
def tw15935319878744379683:=True
def tw15980973691845017688:=True
def tw15984423618290073828:=True
def tw16012923937514148862:=True
def tw16026264804640237530:=True
def tw16063654631376268994:=True
def tw16065133953733707803:=True
def tw16067203855501888313:=True
def tw16106873617209771580:=True
def tw16222802392537291245:=True
def tw16227257611910400977:=True
def tw16297105567881214412:=True
def tw16409071517891975165:=True
def tw16410180932464520190:=True
def tw16419701489921383201:=True
def tw16484295256418301371:=True
def tw16484532737248245291:=True
def tw16484997087888031049:=True
def tw16492922164975912239:=True
def tw16539273767954806412:=True
def tw16561363230398945980:=True
def tw16581943952939572085:=True
def tw16588090015506544315:=True
def tw16631074179299957760:=True
def tw16658022833201327055:=True
def tw16754001494129831206:=True
def tw16761200797658328178:=True
def tw16767583469310668278:=True
def tw16940603332935778953:=True
def tw16960626613081613238:=True
def tw17042050956000274187:=True
def tw17046366414644765443:=True
def tw17066150715981572856:=True
def tw17080749382894827107:=True
def tw17082470071608706788:=True
def tw17151485780570477079:=True
def tw17229341183892003327:=True
def tw17265550991209762850:=True
def tw17302590846934027933:=True
def tw17331979461050816460:=True
def tw17424664820534844383:=True
def tw1744170897251569357:=True
def tw17446899487877235519:=True
def tw17501104166064088629:=True
def tw17584671865102924254:=True
def tw1759239747376649142:=True
def tw17631019033117938094:=True
def tw17695612898090023714:=True
def tw17764455008281595318:=True
def tw17792799108381573179:=True
def tw1781508257274450902:=True
def tw17845446551838855535:=True
def tw17853600611692610089:=True
def tw17860848283096868841:=True
def tw17916305459308762323:=True
def tw17920091727655408920:=True
def tw17935111794242793420:=True
def tw17940277142911038418:=True
def tw17958343293057681778:=True
def tw17975142697473728805:=True
def tw18009446863500977606:=True
def tw18058496591291523077:=True
def tw18077413419677253771:=True
def tw18083659537192355669:=True
def tw18106981582634830206:=True
def tw18153464711500756897:=True
def tw18220565688856723522:=True
def tw1825952674625285757:=True
def tw18286020247992191322:=True
def tw1830742806367087483:=True
def tw18327417513588495305:=True
def tw18334734890544813874:=True
def tw1893359891026962768:=True
def tw1923327127463989941:=True
def tw1940876058913129523:=True
def tw1946642168160404736:=True
def tw1988845922402815346:=True
def tw2035152869113448136:=True
def tw2048120147218882633:=True
def tw208940649828620988:=True
def tw2091551156735509521:=True
def tw2095104858062575512:=True
def tw2119314933360444053:=True
def tw2126426515400495823:=True
def tw2184887482553864968:=True
def tw2193868889935168519:=True
def tw2218642329087329216:=True
def tw2222055463429018716:=True
def tw2333928551975487852:=True
def tw2366163976775700220:=True
def tw2406933748564125072:=True
def tw245355430779193789:=True
def tw2466448355016987527:=True
def tw2517808353037335317:=True
def tw2573307844005238023:=True
def tw2579516499883368152:=True
def tw2631105551106873964:=True
def tw2693935105930524372:=True
def tw2712781616349593881:=True
def tw2724865025866284020:=True
def tw2729242517501279997:=True
def tw2969921471822468541:=True
def tw2986087290591177907:=True
def tw2993844953585362710:=True
def tw3011994691728704925:=True
def tw3030354334397422162:=True
def tw3071916971202040970:=True
def tw3077232831696588095:=True
def tw3086986309988058498:=True
def tw3159711136044993940:=True
def tw3176409690021458630:=True
def tw3181179324833098883:=True
def tw3181570069770121438:=True
def tw3317037213500085672:=True
def tw3334893399422481287:=True
def tw3398649323591952777:=True
def tw3419312063960468585:=True
def tw3458965684306508440:=True
def tw3471125476607721634:=True
def tw3535034118452712036:=True
def tw3558660880628937729:=True
def tw3571933679623357973:=True
def tw3584439786227985154:=True
def tw3584680177823148744:=True
def tw3590560760320686462:=True
def tw3617569020003377044:=True
def tw3623201261492179150:=True
def tw362758782412320574:=True
def tw3681204007784345783:=True
def tw374354200786402522:=True
def tw3802540419408991703:=True
def tw3808664140448426006:=True
def tw3826002205306730432:=True
def tw3836469142553722759:=True
def tw3855597266670578673:=True
def tw3872104595123337529:=True
def tw3939972118300203327:=True
def tw396457552738429376:=True
def tw3969448261556153870:=True
def tw4038610559788534040:=True
def tw4049460342049057226:=True
def tw4055221414336528985:=True
def tw4099130374261842151:=True
def tw4107049702111848983:=True
def tw4107209126179568635:=True
def tw4155791174859772480:=True
def tw426105298973091245:=True
def tw4295055110456446096:=True
def tw4309276688566463429:=True
def tw43146816652841180:=True
def tw4358157381938191390:=True
def tw4376446365137772842:=True
def tw4394323127697448319:=True
def tw4398150196729969801:=True
def tw4436402841857826154:=True
def tw4458189047546088219:=True
def tw4490321309913307001:=True
def tw451389086712172164:=True
def tw4517748251229488297:=True
def tw4523755024148963852:=True
def tw4549822230926278389:=True
def tw4563504158012572880:=True
def tw4587555910099119586:=True
def tw4588447036423377012:=True
def tw4601102472673186284:=True
def tw4642237865946900545:=True
def tw4694540854170275751:=True
def tw4706627310351170667:=True
def tw4734508745929294979:=True
def tw4735639546057693270:=True
def tw4739785539365854391:=True
def tw4798484247176177164:=True
def tw482034697628773504:=True
def tw4852891047099399549:=True
def tw4861665901941750778:=True
def tw4899097557538081851:=True
def tw4917567153045371015:=True
def tw4928237890091426103:=True
def tw4941168029142626622:=True
def tw4970506177913857282:=True
def tw5096360165003385553:=True
def tw5163205655367423996:=True
def tw520168448415876065:=True
def tw5224590455356249209:=True
def tw5251477386731501508:=True
def tw5258305060485063648:=True
def tw5263246308920021341:=True
def tw5346099208869842198:=True
def tw5427284486304160631:=True
def tw5436012025103490334:=True
def tw5511316531825381841:=True
def tw5535044222240796606:=True
def tw5567142467408594414:=True
def tw5569128561237232807:=True
def tw5605748050650982577:=True
def tw5646725837365261180:=True
def tw5678812902117742968:=True
def tw5725324130674754562:=True
def tw573168441187998289:=True
def tw5748473063470751338:=True
def tw5762568585365097207:=True
def tw580140219635000726:=True
def tw5833930456887393492:=True
def tw5849297931333418647:=True
def tw5915401990781869631:=True
def tw5927025365465308522:=True
def tw6018223921611460783:=True
def tw6119014461179981083:=True
def tw6126421823890601440:=True
def tw6128613659567552866:=True
def tw6150962798308244479:=True
def tw6168910327470145896:=True
def tw6261978494052481349:=True
def tw6284420473422632026:=True
def tw6290830684086688291:=True
def tw6305455018575400879:=True
def tw6450080912578877291:=True
def tw6463093817747148966:=True
def tw647911531421130758:=True
def tw6615411373382055826:=True
def tw6615708569174965838:=True
def tw6622863530594216486:=True
def tw6647242568392648954:=True
def tw6676489366204537303:=True
def tw668163195229627938:=True
def tw6692619273400076893:=True
def tw6762977980977403773:=True
def tw678928748289813588:=True
def tw6809955682725454606:=True
def tw6913186106327823840:=True
def tw6930802921633861822:=True
def tw6980755149423912289:=True
def tw698758526303018643:=True
def tw6996302742201319383:=True
def tw7021422670982225030:=True
def tw7081308504942728404:=True
def tw7081478121963947135:=True
def tw7108731553722195935:=True
def tw7119594803115403205:=True
def tw7175122381932194080:=True
def tw7191945252658689181:=True
def tw7199833680579867357:=True
def tw7267773382186304386:=True
def tw7285758122661191100:=True
def tw7297612700137263317:=True
def tw7304582591872707934:=True
def tw7324063847681020541:=True
def tw7328482734868328128:=True
def tw733019255006907762:=True
def tw7414479228532784759:=True
def tw7433484938799926692:=True
def tw746411856792142719:=True
def tw7506327331855742570:=True
def tw7525238186993270136:=True
def tw7533533436776647606:=True
def tw753920296333436083:=True
def tw7566543626015119211:=True
def tw7584442074450078560:=True
def tw7652555655962974180:=True
def tw7758608755119795132:=True
def tw7789800622090742176:=True
def tw7790383633219864775:=True
def tw7813646397089703374:=True
def tw7874645751749707217:=True
def tw7874682679108970755:=True
def tw7900803577077132213:=True
def tw7927995488736515532:=True
def tw7935984844104592086:=True
def tw7953115266432210492:=True
def tw7954451466593537570:=True
def tw8029072038160657042:=True
def tw8038509374168337394:=True
def tw8129630650215616846:=True
def tw8247293499091701693:=True
def tw824946952307246039:=True
def tw8268710412605686675:=True
def tw8270243356516859604:=True
def tw8282482370935074545:=True
def tw8291344295051167587:=True
def tw8319817259517569884:=True
def tw8325850541158063687:=True
def tw8349146093015995551:=True
def tw8373137030137287461:=True
def tw8376514818931722297:=True
def tw8419816309968001570:=True
def tw8435879175809953336:=True
def tw8538548722670635980:=True
def tw8551780462564162888:=True
def tw857058893609420852:=True
def tw8592377692110801403:=True
def tw8638830310753073938:=True
def tw8673414985495302734:=True
def tw8674283966989432585:=True
def tw869366444977842155:=True
def tw8718805559792505884:=True
def tw8742501554636409284:=True
def tw8781348723792238124:=True
def tw8789964407870093909:=True
def tw8794209823157839762:=True
def tw882065721982670754:=True
def tw8827128698899919576:=True
def tw8854841526309455561:=True
def tw8877695318166517411:=True
def tw8923004027549471703:=True
def tw8955643015864199261:=True
def tw9037200263504781888:=True
def tw9072067311624736533:=True
def tw9092754405998638955:=True
def tw9104951071922575786:=True
def tw9179546871181349364:=True
def tw9200371645136375265:=True
def tw9208139720089468036:=True
def tw9289623094738609172:=True
def tw9324317234736124883:=True
def tw9448988075953313170:=True
def tw9479995951605267507:=True
def tw9502248173796005445:=True
def tw9642866370117442722:=True
def tw9687987357624710461:=True
def tw9762835890348063698:=True
def tw9784826456046637424:=True
def tw9844680033208171000:=True
def tw9915305905080320271:=True
def tw9985336389135409931:=True
end PySem.W.Fast
open PySem.W (InitBack InstAt Looks any_some bind_fn callWith_K callWith_K0 cellsFrom_some codeIn codeRec_of emptyDict eq_bytes excIn exmOne exm_one findIn findObj_own fnOf funFrames_hide get_value handedIn hasDictIn hideAll hideAll_get hideAll_none hideAll_size instObj isFn isNs_of_in kdl_dict kdu_collect keepIn ki_setAt ki_setBack kia_one kitOne kitx_bool kitx_dict kitx_float kitx_int kitx_list kitx_none kitx_own kitx_str kitx_tuple lookIn looks_clsIn looks_findIn make_core makesIn makes_of methodCall_KW methodObj method_fn mg_none_of mg_of mroIn ne_bytes nsIn nsMap_none_of_in of_hideAll osa_open plainGet plainGet_of plainOver set_plain specialIn tail_of_in takerIn takesIn truthy_bytes typeIn)
open Nat (le_of_eq le_succ lt_of_le_of_lt lt_succ_self ne_of_gt ne_of_lt zero_le)
open List (Nodup Pairwise all_cons all_eq_true any_cons any_eq_true append_nil cons_append contains_cons contains_eq_mem contains_iff_mem drop_append_of_le_length filterMap_cons filter_append filter_cons find?_cons find?_eq_none findSome?_cons forIn_cons forIn_nil getD_eq_getElem?_getD getElem?_append_left getElem?_eq_getElem getElem?_map getElem_of_mem head? length_cons length_drop length_filter_le length_map length_range length_replicate length_take map_append map_cons map_map map_nil mem_append mem_append_right mem_cons mem_cons_of_mem mem_cons_self mem_filter mem_filterMap mem_map mem_of_getElem? mem_range mem_singleton nodup_cons nodup_nil not_lt not_mem_nil of_mem_zip pairwise_map prefix_append prefix_refl replicate reverse_append size_toArray take_add_one take_append_drop take_append_of_le_length take_length take_nil take_of_length_le take_succ)
open Int (dvd_mul_right emod_lt_of_pos emod_nonneg toNat_natCast)
open Bool (and_eq_true false_eq_true not_eq_true')
open Option (getD_none isSome_map isSome_none isSome_some map_eq_some_iff)
set_option Elab.async false
set_option linter.all false
set_option maxRecDepth 100000
local macro_rules|`(tactic|omega)=>`(tactic|lia)
namespace L2
open PySem PySem.Spec PyProof.Rows
abbrev Key:=Sum Int Str
def my:Key->Value->Bool
|.inl k,v=>Value.isInt k v
|.inr x,v=>Value.isStrOf x v
def Hh (w:World):Key->Int
|.inl k=>hashInt k
|.inr x=>hashStr w x
theorem bg:∀ {k:Key}{v:Value},my k v=true->(∃ i t,k=Sum.inl i/\v=Value.int i t)\/(∃ x t,k=Sum.inr x/\v=Value.str x t)
|.inl i,v,h=>by
  obtain⟨t,e⟩:=Value.isInt_shape (k:=i) (v:=v) h;exact .inl ⟨i,t,rfl,e⟩
|.inr x,v,h=>by
  obtain⟨t,e⟩:=Value.isStrOf_shape (x:=x) (v:=v) h;exact .inr ⟨x,t,rfl,e⟩
theorem zM (i:Int) (t:Tok):my (.inl i) (.int i t)=true:=by simp[my,Value.isInt]
theorem y7 (x:Str) (t:Tok):my (.inr x) (.str x t)=true:=by simp[my,Value.isStrOf]
theorem FD (a b:Int):decide ((Sum.inl a:Key)=Sum.inl b)=(a == b):=by
 by_cases e:a=b
 . subst e;simp
 . have h:¬ (Sum.inl a:Key)=Sum.inl b:=λq=>e (Sum.inl.inj q)
   rw[decide_eq_false h];exact(beq_eq_false_iff_ne.mpr e).symm
theorem FA (a b:Str):decide ((Sum.inr a:Key)=Sum.inr b)=decide (a=b):=by
 by_cases e:a=b
 . subst e;simp
 . have h:¬ (Sum.inr a:Key)=Sum.inr b:=λq=>e (Sum.inr.inj q)
   rw[decide_eq_false h,decide_eq_false e]
theorem Fv (a:Int) (b:Str):decide ((Sum.inl a:Key)=Sum.inr b)=false:=decide_eq_false (λq=>nomatch q)
theorem El (a:Str) (b:Int):decide ((Sum.inr a:Key)=Sum.inl b)=false:=decide_eq_false (λq=>nomatch q)
def bv (prog:Program) (w:World):PySem.KeyKind prog w Key where
 is:=my
 hash:=Hh w
 inj:=λv a b ha hb=>by
  rcases bg ha with⟨i,t,rfl,rfl⟩|⟨x,t,rfl,rfl⟩
  . rcases bg hb with⟨j,u,rfl,e⟩|⟨y,u,rfl,e⟩
    . injection e with e1 _;rw[e1]
    . exact nomatch e
  . rcases bg hb with⟨j,u,rfl,e⟩|⟨y,u,rfl,e⟩
    . exact nomatch e
    . injection e with e1 _;rw[e1]
 byValue:=λk v h=>by
  rcases bg h with⟨i,t,rfl,rfl⟩|⟨x,t,rfl,rfl⟩<;>rfl
 pyHash:=λhv h=>by
  rcases bg hv with⟨i,t,rfl,rfl⟩|⟨x,t,rfl,rfl⟩
  . exact wpAny_pyHash_int h
  . exact wpAny_pyHash_str h
 eqBool:=λhu hv h=>by
  rcases bg hu with⟨i,t,rfl,rfl⟩|⟨x,t,rfl,rfl⟩
  . rcases bg hv with⟨j,u,rfl,rfl⟩|⟨y,u,rfl,rfl⟩
    . rw[FD]at h;exact wpAny_eqBool_int h
    . rw[Fv]at h;exact SeqAt.EqAt.int_str i t y u _ _ _ _ h
  . rcases bg hv with⟨j,u,rfl,rfl⟩|⟨y,u,rfl,rfl⟩
    . rw[El]at h;exact SeqAt.EqAt.str_int x t j u _ _ _ _ h
    . rw[FA]at h;exact wpAny_eqBool_str h
 «strs»:=λk x t v h=>by
  rcases bg h with⟨i,u,rfl,e⟩|⟨y,u,rfl,e⟩
  . exact nomatch e
  . injection e with e1 _
    subst e1;cases v<;>rfl
theorem uB (prog:Program) (w:World) (i:Int) (t:Tok):(bv prog w).is (.inl i) (.int i t)=true:=zM i t
theorem uZ (prog:Program) (w:World) (x:Str) (t:Tok):(bv prog w).is (.inr x) (.str x t)=true:=y7 x t
inductive V where
|non|bl (b:Bool)|int (i:Int)|str (x:Str)|byt (b:Array UInt8)|flt (b:UInt64)|ref (a:Addr)|ty (n:String)
 deriving DecidableEq
def bR:V->Value->Prop
|.non,u=>u=Value.none
|.bl b,u=>u=Value.bool b
|.int i,u=>∃ t,u=Value.int i t
|.str x,u=>∃ t,u=Value.str x t
|.byt b,u=>∃ t,u=Value.bytes b t
|.flt b,u=>∃ t,u=Value.float b t
|.ref a,u=>u=Value.ref a
|.ty n,u=>u=Value.type n
abbrev bC:List V->List Value->Prop:=Paired bR
theorem bC.length {xs:List V}{us:List Value}(r:bC xs us):xs.length=us.length:=Paired.length r
theorem bC.get:∀ {xs:List V}{us:List Value}{i:Nat}{x:V},bC xs us->xs[i]?=some x->∃ u,us[i]?=some u/\bR x u
|_,_,_,_,.nil,e=>by simp at e
|_,_,0,_,.cons r _,e=>by simp at e;subst e;exact⟨_,rfl,r⟩
|_,_,i+1,x,.cons _ t,e=>by
  obtain⟨u,h1,h2⟩:=bC.get (i:=i) (x:=x) t (by simpa using e);exact⟨u,by simpa using h1,h2⟩
theorem bC.set {x:V}{u:Value}(r:bR x u):∀ {xs:List V}{us:List Value}(i:Nat),bC xs us->bC (xs.set i x) (us.set i u)
|_,_,_,.nil=>.nil
|_,_,0,.cons _ t=>.cons r t
|_,_,i+1,.cons q t=>.cons q (bC.set r i t)
theorem bC.append:∀ {xs ys:List V}{us ws:List Value},bC xs us->bC ys ws->bC (xs++ys) (us++ws)
|_,_,_,_,.nil,s=>s
|_,_,_,_,.cons r t,s=>.cons r (bC.append t s)
theorem bC.take:∀ {xs:List V}{us:List Value}(n:Nat),bC xs us->bC (xs.take n) (us.take n)
|_,_,0,_=>.nil
|_,_,_+1,.nil=>.nil
|_,_,n+1,.cons r t=>.cons r (bC.take n t)
theorem bC.drop:∀ {xs:List V}{us:List Value}(n:Nat),bC xs us->bC (xs.drop n) (us.drop n)
|_,_,0,r=>r
|_,_,_+1,.nil=>.nil
|_,_,n+1,.cons _ t=>bC.drop n t
def rX:Option V->Option Value->Prop
|some v,some u=>bR v u
|none,none=>True
|_,_=>False
def KV {κ:Type}:List (κ × V)->List (κ × Value)->Prop:=Paired λ(p:κ × V) (q:κ × Value)=>p.1=q.1/\bR p.2 q.2
def kV:Key->V
|.inl i=>.int i
|.inr x=>.str x
inductive HO where
 /-- a list -/
|lst (xs:List V)
 /-- a tuple (never changes) -/
|tup (xs:List V)
 /-- a dict whose keys are ints and texts;one whose keys are tuples of ints and texts (the empty one is both) -/
|dK (kvs:List (Key × V))|dT (kvs:List (List Key × V))
 /-- a set of ints: its members,its size -/
|set (S:Int->Bool) (n:Nat)
 /-- an instance of the class at C,its dict at dx,its attributes -/
|ins (C dx:Addr) (fs:List (Str × V))
 /-- the dict of the instance at x -/
|own (x:Addr)
 /-- the dict of an exception -/
|xd (fs:List (Str × V))
 /-- a bound method,f of x -/
|met (f x:Addr)
 /-- a range object lo,lo+1,.. below hi -/
|rng (lo hi:Int)
 /-- a thing that is known to the object (the script;a dict while a loop walks it): read,never written while it is so -/
|frz (o:Obj) (u:HO)
 /-- a code object's table -/
|tbl (ps:Array Value)
 /-- any other thing,by what is true of its one object (a def of one's own: SetO a S n:=HO.ext λh=>..) -/
|ext (φ:Heap->Prop)
abbrev Hp:=Addr->Option HO
def upd (H:Hp) (a:Addr) (o:HO):Hp:=λb=>if b=a then some o else H b
theorem a6 {H:Hp}{a:Addr}{o:HO}:upd H a o a=some o:=by unfold upd;rw[if_pos rfl]
theorem aa {H:Hp}{a b:Addr}{o:HO}(h:b≠a):upd H a o b=H b:=by unfold upd;rw[if_neg h]
theorem cP {H:Hp}{a:Addr}{o u:HO}:upd (upd H a o) a u=upd H a u:=by
 funext b;unfold upd;split<;>rfl
theorem ii {H:Hp}{a b:Addr}{o u:HO}(h:H a=some o) (h':H b=some u) (d:o≠u):a≠b:=by
 intro e;subst e;rw[h]at h';exact d (Option.some.inj h')
theorem ae {H:Hp}{a b:Addr}{o:HO}(h:H a=some o) (h':H b=none):a≠b:=by
 intro e;subst e;rw[h]at h';cases h'
section
variable (P:Program) (w:World)
def cT (H:Hp) (h:Heap) (a:Addr):HO->Prop
|.lst xs=>xs.length <= sizeLine/\∃ (its:List Value) (n:Nat),bC xs its/\h.get? a=some { cls:=.type "list",data:=.seq its.toArray n }
|.tup xs=>xs.length <= sizeLine/\∃ its:List Value,bC xs its/\IsTup h a its.toArray
|.dK kvs=>kvs.length <= sizeLine/\(a == sysModules)=false/\∃ vs,KV kvs vs/\h.DictOf (bv P w) a vs
|.dT kvs=>kvs.length <= sizeLine/\(a == sysModules)=false/\∃ xs:List (List Key × Addr × Value),
  Paired (λ(p:List Key × V) (q:List Key × Addr × Value)=>p.1=q.1/\H q.2.1=some (.tup (p.1.map kV))/\bR p.2 q.2.2) kvs xs /\
  ∃ o es ep,h.get? a=some o/\o.ExactDict/\o.data=.dict es ep/\es.toList=xs.map (entryOfKey (tupleKind (bv P w)))/\(xs.map (·.1)).Nodup
|.set S n=>h.SetOf (intKind P w) a S n
|.ins C dx fs=>H dx=some (.own a)/\fs.length <= 1000/\dx≠a/\h.get? a=some (instObj C dx) /\
  ∃ mA,h.Ns1 dx mA/\(∀ f,rX (fs.lookup f) (mA f))/\PySem.Within mA (fs.map (·.1))
|.own _=>∃ o,h.get? a=some o
|.xd fs=>∃ mA,h.Ns1 a mA/\∀ f,rX (fs.lookup f) (mA f)
|.rng lo hi=>∃ t u v,h.get? a=some { cls:=.type "range",data:=.fields #[.int lo t,.int hi u,.int 1 v] }
|.frz o u=>h.get? a=some o/\cT H h a u
|.tbl ps=>h.get? a=some { cls:=.none,data:=.fields ps }
|.met f x=>h.get? a=some (methodObj (.ref f) (.ref x))
|.ext φ=>φ h/\(∃ o,h.get? a=some o)/\∀ h1 h2:Heap,φ h1->(∀ o,h1.get? a=some o->h2.get? a=some o)->φ h2
def HOk (H:Hp) (h:Heap):Prop:=∀ a o,H a=some o->cT P w H h a o
end
section
variable {P:Program}{w:World}{H H':Hp}{h h':Heap}{a:Addr}{o:HO}
theorem cT.lt (x:cT P w H h a o):a < h.objs.size:=by
 cases o with
|lst xs=>obtain⟨_,_,_,_,e⟩:=x;exact Heap.lt_size e
|tup xs=>obtain⟨_,_,_,p⟩:=x;exact p.lt
|dK kvs=>obtain⟨_,_,_,_,o,_,_,e,_⟩:=x;exact Heap.lt_size e
|dT kvs=>obtain⟨_,_,_,_,o,_,_,e,_⟩:=x;exact Heap.lt_size e
|set S n=>obtain⟨o,_,_,_,e,_⟩:=x;exact Heap.lt_size e
|ins C dx fs=>obtain⟨_,_,_,e,_⟩:=x;exact Heap.lt_size e
|own y=>obtain⟨_,e⟩:=x;exact Heap.lt_size e
|xd fs=>obtain⟨_,⟨_,_,_,e,_⟩,_⟩:=x;exact Heap.lt_size e
|rng lo hi=>obtain⟨_,_,_,e⟩:=x;exact Heap.lt_size e
|frz ob u=>obtain⟨e,_⟩:=x;exact Heap.lt_size e
|tbl ps=>exact Heap.lt_size (show h.get? a=some _ from x)
|met f y=>exact Heap.lt_size (show h.get? a=some _ from x)
|ext φ=>obtain⟨_,⟨_,e⟩,_⟩:=x;exact Heap.lt_size e
theorem Paired.mapP {α β:Type}{F G:α->β->Prop}:∀ {l₁:List α}{l₂:List β},Paired F l₁ l₂->(∀ a b,F a b->G a b)->Paired G l₁ l₂
|_,_,.nil,_=>.nil
|_,_,.cons r t,f=>.cons (f _ _ r) (Paired.mapP t f)
theorem cT.stay (x:cT P w H h a o) (k:∀ b u,(b=a\/H b=some (.own a))->h.get? b=some u->h'.get? b=some u)
 (ho:∀ b,H b=some (.own a)->H' b=some (.own a)) (ht:∀ b xs,H b=some (.tup xs)->H' b=some (.tup xs)):cT P w H' h' a o:=by
 induction o with
|lst xs=>obtain⟨z,its,n,r,e⟩:=x;exact⟨z,its,n,r,k _ _ (.inl rfl) e⟩
|tup xs=>obtain⟨z,its,r,ob,e,c⟩:=x;exact⟨z,its,r,ob,k _ _ (.inl rfl) e,c⟩
|dK kvs=>obtain⟨z,y,vs,r,ob,es,ep,e,c⟩:=x;exact⟨z,y,vs,r,ob,es,ep,k _ _ (.inl rfl) e,c⟩
|dT kvs =>
  obtain⟨z,y,xs,r,ob,es,ep,e,c⟩:=x;exact⟨z,y,xs,Paired.mapP r λp q z=>⟨z.1,ht _ _ z.2.1,z.2.2⟩,ob,es,ep,k _ _ (.inl rfl) e,c⟩
|set S n=>obtain⟨ob,es,ep,t,e,c⟩:=x;exact⟨ob,es,ep,t,k _ _ (.inl rfl) e,c⟩
|ins C dx fs =>
  obtain⟨d,z,ne,e,mA,⟨od,es,ep,e2,c⟩,r⟩:=x;exact⟨ho _ d,z,ne,k _ _ (.inl rfl) e,mA,⟨od,es,ep,k _ _ (.inr d) e2,c⟩,r⟩
|own y=>obtain⟨ob,e⟩:=x;exact⟨ob,k _ _ (.inl rfl) e⟩
|xd fs=>obtain⟨mA,⟨od,es,ep,e,c⟩,r⟩:=x;exact⟨mA,⟨od,es,ep,k _ _ (.inl rfl) e,c⟩,r⟩
|rng lo hi=>obtain⟨t,u,v,e⟩:=x;exact⟨t,u,v,k _ _ (.inl rfl) e⟩
|frz ob u ih=>obtain⟨e,q⟩:=x;exact⟨k _ _ (.inl rfl) e,ih q⟩
|tbl ps =>
  have e:h.get? a=some { cls:=.none,data:=.fields ps }:=x;show h'.get? a=some { cls:=.none,data:=.fields ps };exact k a _ (.inl rfl) e
|met f y =>
  have e:h.get? a=some (methodObj (.ref f) (.ref y)):=x;show h'.get? a=some (methodObj (.ref f) (.ref y));exact k a _ (.inl rfl) e
|ext φ=>obtain⟨p,⟨o,e⟩,st⟩:=x;exact⟨st _ _ p λo q=>k _ _ (.inl rfl) q,⟨o,k _ _ (.inl rfl) e⟩,st⟩
theorem HOk.lt (x:HOk P w H h) (e:H a=some o):a < h.objs.size:=(x a o e).lt
theorem HOk.fresh (x:HOk P w H h) (e:h.objs.size <= a):H a=none:=by
 cases q:H a with
|none=>rfl
|some u=>exact absurd (Nat.lt_of_lt_of_le (x.lt q) e) (Nat.lt_irrefl _)
theorem HOk.kept (x:HOk P w H h) (k:∀ b u,h.get? b=some u->h'.get? b=some u):HOk P w H h':=λa o e =>
 (x a o e).stay (λb u _ q=>k b u q) (λ_ q=>q) λ_ _ q=>q
theorem HOk.laid (x:HOk P w H h) (k:∀ b u,h.get? b=some u->h'.get? b=some u) (hp:h.objs.size <= a) (new:cT P w (upd H a o) h' a o):HOk P w (upd H a o) h':=λb u e=>by
 have hn:=x.fresh hp;by_cases hb:b=a
 . subst hb;rw[a6]at e;cases e;exact new
 . rw[aa hb]at e;exact(x b u e).stay (λc v _ q=>k c v q) (λc q=>by rw[aa (ae q hn)];exact q) λc xs q=>by rw[aa (ae q hn)];exact q
end
def Rd (H:Hp) (a:Addr) (u:HO):Prop:=H a=some u\/∃ o,H a=some (.frz o u)
theorem Rd.ok {P:Program}{w:World}{H:Hp}{h:Heap}{a:Addr}{u:HO}(r:Rd H a u) (x:HOk P w H h):cT P w H h a u:=by
 rcases r with r|⟨o,r⟩
 . exact x a u r
 . obtain⟨_,q⟩:=x a _ r;exact q
def Mut:Option HO->Prop
|some (.lst _)=>True
|some (.dK _)=>True
|some (.dT _)=>True
|some (.set _ _)=>True
|some (.ins _ _ _)=>True
|some (.ext _)=>True
|_=>False
section
variable {P:Program}{w:World}{H:Hp}{h h':Heap}{x e:Addr}{o':HO}
theorem HOk.write (ok:HOk P w H h) (mu:Mut (H x)) (he:e=x\/H e=some (.own x)) (k:∀ b u,b≠e->h.get? b=some u->h'.get? b=some u) (heo:∃ u,h'.get? e=some u)
 (new:cT P w (upd H x o') h' x o'):HOk P w (upd H x o') h':=λb u q=>by
 have nown:∀ c y,H c=some (.own y)->c≠x:=λc y r z=>by subst z;rw[r]at mu;exact mu
 have ntup:∀ c xs,H c=some (.tup xs)->c≠x:=λc xs r z=>by subst z;rw[r]at mu;exact mu
 by_cases hb:b=x
 . subst hb;rw[a6]at q;cases q;exact new
 . rw[aa hb]at q;by_cases hbe:b=e
   . have q':H b=some (.own x):=by
      rcases he with z|z
      . exact absurd (hbe.trans z) hb
      . rw[hbe];exact z
     rw[q]at q';cases q';obtain⟨v,hv⟩:=heo;exact⟨v,by rw[hbe];exact hv⟩
   . refine(ok b u q).stay (λc v hc r=>k c v ?_ r) (λc r=>by rw[aa (nown c b r)];exact r) λc xs r=>by rw[aa (ntup c xs r)];exact r
     rcases hc with rfl|hc
     . exact hbe
     . rintro rfl;rcases he with z|z
       . exact nown c b hc z
       . rw[hc]at z;cases z;exact hb rfl
end
structure Un (fs ex:List Addr) (H H':Hp) (h h':Heap):Prop where
 keep:∀ b o,h.get? b=some o->H b=none->b ∉ fs->b ∉ ex->h'.get? b=some o
 slot:∀ b o,h.get? b=some o->H b=none->b∈fs->b ∉ ex->∃ sl,h'.get? b=some { o with slots:=sl }
 free:∀ b o,h.get? b=some o->H b=none->b ∉ ex->H' b=none
 there:∀ b o,h.get? b=some o->b ∉ ex->∃ o',h'.get? b=some o'
 tups:∀ b xs,H b=some (.tup xs)->H' b=some (.tup xs)
 frzs:∀ b o u,H b=some (.frz o u)->H' b=some (.frz o u)
 tbls:∀ b ps,H b=some (.tbl ps)->∃ more,H' b=some (.tbl (ps++more))
section
variable {fs fs' ex ex':List Addr}{H H1 H2:Hp}{h h1 h2 h':Heap}{a x e:Addr}{o:HO}
theorem Un.any (u:Un fs ex H H1 h h1) {b:Addr}{ob:Obj}(q:h.get? b=some ob) (n:H b=none) (hx:b ∉ ex):∃ sl,h1.get? b=some { ob with slots:=sl }:=by
 by_cases hb:b∈fs
 . exact u.slot b ob q n hb hx
 . exact⟨ob.slots,u.keep b ob q n hb hx⟩
theorem Un.kept (k:∀ b u,h.get? b=some u->h'.get? b=some u):Un fs ex H H h h' :=
 ⟨λb ob q _ _ _=>k b ob q,λb ob q _ _ _=>⟨ob.slots,k b ob q⟩,λ_ _ _ n _=>n,λb ob q _=>⟨ob,k b ob q⟩,λ_ _ q=>q,λ_ _ _ q=>q,λ_ ps q=>⟨#[],by rw[q];simp⟩⟩
theorem Un.refl:Un fs ex H H h h:=Un.kept λ_ _ q=>q
theorem Un.laid (k:∀ b u,h.get? b=some u->h'.get? b=some u) (hp:h.objs.size <= a) (hn:H a=none):Un fs ex H (upd H a o) h h' where
 keep:=λb u q _ _ _=>k b u q
 slot:=λb u q _ _ _=>⟨u.slots,k b u q⟩
 free:=λb u q n _=>by rw[aa (ne_of_lt (Nat.lt_of_lt_of_le (Heap.lt_size q) hp))];exact n
 there:=λb u q _=>⟨u,k b u q⟩
 tups:=λb xs q=>by rw[aa (ae q hn)];exact q
 frzs:=λb u xs q=>by rw[aa (ae q hn)];exact q
 tbls:=λb ps q=>⟨#[],by rw[aa (ae q hn),q];simp⟩
theorem Un.write (mu:Mut (H x)) (he:e=x\/H e=some (.own x)) (k:∀ b u,b≠e->h.get? b=some u->h'.get? b=some u) (heo:∃ u,h'.get? e=some u):Un fs ex H (upd H x o) h h':=by
 have hx:∀ b,H b=none->b≠x:=λb n z=>by subst z;rw[n]at mu;exact mu
 have hb:∀ b,H b=none->b≠e:=λb n z=>by
  subst z;rcases he with r|r
  . exact hx b n r
  . rw[n]at r;cases r
 have hm:∀ b u,H b=some u->¬ Mut (some u)->b≠x:=λb u q nm z=>by subst z;rw[q]at mu;exact nm mu
 refine⟨λb u q n _ _=>k b u (hb b n) q,λb u q n _ _=>⟨u.slots,k b u (hb b n) q⟩,λb u q n _=>by rw[aa (hx b n)];exact n,λb u q _=>?_,
  λb xs q=>by rw[aa (hm b _ q λz=>z)];exact q,λb u xs q=>by rw[aa (hm b _ q λz=>z)];exact q,λb ps q=>⟨#[],by rw[aa (hm b _ q λz=>z),q];simp⟩⟩
 by_cases hbe:b=e
 . subst hbe;exact heo
 . exact⟨u,k b u hbe q⟩
end
def trk (h:Heap) (H:Hp):List Addr:=(List.range h.objs.size).filter λa=>(H a).isSome
def AJ (h:Heap) (H:Hp):Heap:=hideAll h (trk h H)
theorem xO (h:Heap) (H:Hp):(AJ h H).objs.size=h.objs.size:=hideAll_size _ _
theorem Au {h:Heap}{H:Hp}{b:Addr}{o:Obj}(e:h.get? b=some o) (n:H b=none):(AJ h H).get? b=some o :=
 hideAll_get _ e λhm=>by
  have q:(H b).isSome=true:=(mem_filter.mp hm).2;rw[n]at q;simp at q
theorem Cy {h:Heap}{H:Hp}{b:Addr}{o:Obj}(e:(AJ h H).get? b=some o):h.get? b=some o/\H b=none:=by
 have e':h.get? b=some o:=of_hideAll (trk h H) e;refine⟨e',?_⟩;cases q:H b with
|none=>rfl
|some x =>
  have hm:b∈trk h H:=mem_filter.mpr ⟨mem_range.mpr (Heap.lt_size e'),by simp[q]⟩;have z:(AJ h H).get? b=none:=hideAll_none (trk h H) hm;rw[z]at e;cases e
def DM (g h:Heap) (L:Addr):List (Addr × Obj):=(List.range h.objs.size).filterMap λa=>if a=L\/(g.get? a).isSome=true then none else (h.get? a).map λo=>(a,o)
def rest (g h:Heap) (L d:Addr):List (Addr × Obj):=(DM g h L).filter λp=>decide (p.1≠d)
structure Mod (K:PySem.W.Frag) (mg:Str->Option Value) (base:Heap):Prop where
 kin:K.In base
 glob:base.Ns mainGlobals mg
 blt:∃ mb,base.Ns builtinsNs mb/\∀ x:Str,x≠"__name__"->mb x=bootBuiltins x
 nolimit:base.NoLimit
structure Cx where
 prog:Program
 w:World
 K:PySem.W.Frag
 mg:Str->Option Value
 base:Heap
 A:Around
 N:List Str
 s₀:Shared
 H₀:Hp
 env:Env
 outer:List Env
 stack:List Env
 ex:List Addr
 fn:Str->Bool
 calm:Bool
 pn:List (Addr × Obj)
 xe:Value->Shared->Prop
def frs (l:List Env):List Addr:=l.filterMap (·.frame)
abbrev Cx.fs (X:Cx):List Addr:=frs X.outer
def Vis (sc:Scope) (x:Str):Prop:=sc.names.lookup x=some .local\/sc.names.lookup x=some .cell\/sc.names.lookup x=some .free
def Loc (sc:Scope) (x:Str):Prop:=sc.names.lookup x=some .local\/sc.names.lookup x=some .cell
def HR (env:Env) (h:Heap) (m:Str->Option Value) (x:Str) (u:Value):Prop :=
 (env.kindOf x=some .local/\m x=some u)\/((env.kindOf x=some .cell\/env.kindOf x=some .free)/\∃ c,env.cells.lookup x=some c/\h.IsCell c (some u))
structure Cx.Ok (X:Cx):Prop where
 mod:Mod X.K X.mg X.base
 kind:X.env.scope.kind=.function
 glob:X.env.globals=mainGlobals
 blt:X.env.builtins=builtinsNs
 above:X.s₀.heap.objs.size <= X.env.locals
 inj:∀ x y c,X.env.cells.lookup x=some c->X.env.cells.lookup y=some c->x=y
 has:∀ x,(X.env.kindOf x=some .cell\/X.env.kindOf x=some .free)->∃ c,X.env.cells.lookup x=some c
 cab:∀ x c,X.fn x=true->X.env.cells.lookup x=some c->X.s₀.heap.objs.size <= c
 hd:X.calm=true->X.A.handled=none
 frames:X.A.frames=some X.stack
 stk:X.stack=X.outer\/(X.stack=X.env :: X.outer/\X.env.frame=some X.env.locals)
 exf:∀ b∈X.ex,b≠X.env.locals/\∀ x c,X.env.cells.lookup x=some c->c≠b
 bs:∀ b o,X.base.get? b=some o->X.s₀.heap.get? b=some o/\X.H₀ b=none
 bsz:X.base.objs.size <= X.s₀.heap.objs.size
 noex:∀ b o,X.base.get? b=some o->b ∉ X.ex
 exfs:∀ b∈X.ex,b ∉ X.fs
 funs:X.s₀.heap.FunFrames X.base X.outer
 frf:∀ b∈X.fs,X.H₀ b=none
structure Inv (X:Cx) (pins:List (Addr × Obj)) (σ:List (Option V)) (H:Hp) (s:Shared):Prop where
 ok:X.Ok
 os:s.os=X.s₀.os
 bare:AllBare s.gens
 base:Un X.fs X.ex X.H₀ H X.s₀.heap s.heap
 loc:∃ m,s.heap.Ns X.env.locals m/\∀ (i:Nat) (x:Str) (v:V),X.N[i]?=some x->σ[i]?=some (some v)->Vis X.env.scope x->∃ u,bR v u/\HR X.env s.heap m x u
 cell:∀ x c,X.env.cells.lookup x=some c->∃ v,s.heap.IsCell c v
 free:H X.env.locals=none
 freeC:∀ x c,X.env.cells.lookup x=some c->H c=none
 pin:∀ p∈X.pn++pins,s.heap.get? p.1=some p.2/\H p.1=none/\p.1≠X.env.locals/\p.1 ∉ X.fs/\∀ v,p.2.data≠.cell v
 hok:HOk X.prog X.w H s.heap
 len:σ.length=X.N.length
section
variable {X:Cx}{pins:List (Addr × Obj)}{σ:List (Option V)}{H H':Hp}{s:Shared}{h':Heap}
theorem Cx.Ok.nofr (ok:X.Ok) {b:Addr}{o:Obj}(e:X.base.get? b=some o):b ∉ X.fs:=λhb=>by
 have:=(ok.funs.mem hb).1;rw[e]at this;cases this
theorem Inv.bs (I:Inv X pins σ H s):∀ b o,X.base.get? b=some o->s.heap.get? b=some o/\H b=none:=λb o e =>
 ⟨I.base.keep b o (I.ok.bs b o e).1 (I.ok.bs b o e).2 (I.ok.nofr e) (I.ok.noex b o e),I.base.free b o (I.ok.bs b o e).1 (I.ok.bs b o e).2 (I.ok.noex b o e)⟩
theorem Inv.bk (I:Inv X pins σ H s):∀ b o,X.base.get? b=some o->s.heap.get? b=some o:=λb o e=>(I.bs b o e).1
theorem Inv.mod (I:Inv X pins σ H s):Mod X.K X.mg X.base:=I.ok.mod
theorem Inv.kIn (I:Inv X pins σ H s):X.K.In s.heap:=I.ok.mod.kin.keeps I.bk
theorem Inv.lt (I:Inv X pins σ H s):X.env.locals < s.heap.objs.size:=let ⟨_,hn,_⟩:=I.loc;hn.lt
theorem Inv.sz (I:Inv X pins σ H s):X.s₀.heap.objs.size <= s.heap.objs.size:=Nat.le_trans I.ok.above (Nat.le_of_lt I.lt)
theorem Inv.nofs (I:Inv X pins σ H s) {a:Addr}(h:s.heap.objs.size <= a):a ∉ X.fs:=λhb=>by
 obtain⟨_,o,ho,_⟩:=I.ok.funs.mem hb;exact absurd (Nat.lt_of_lt_of_le (Heap.lt_size ho) (Nat.le_trans I.sz h)) (Nat.lt_irrefl _)
theorem Inv.cne (I:Inv X pins σ H s):∀ x c,X.env.cells.lookup x=some c->c≠X.env.locals:=λx c e z=>by
 obtain⟨v,o,ho,hd⟩:=I.cell x c e;obtain⟨m,⟨o',es,ep,ho',hd',_⟩,_⟩:=I.loc;rw[z,ho']at ho;cases ho;rw[hd']at hd;cases hd
theorem Inv.funs (I:Inv X pins σ H s):s.heap.FunFrames X.base X.outer:=by
 have all:∀ (l:List Env),(∀ b∈frs l,b∈X.fs)->X.s₀.heap.FunFrames X.base l->s.heap.FunFrames X.base l:=by
  intro l
  induction l with
 |nil=>intro _ _;trivial
 |cons env r ih =>
   intro hs hl;obtain⟨hk,⟨L,o,hf,hn,ho,hd⟩,hr⟩:=hl;have hL:L∈X.fs:=hs L (by unfold frs;rw[filterMap_cons,hf];exact mem_cons_self);obtain⟨sl,e⟩:=I.base.slot L o ho (I.ok.frf L hL) hL λz=>I.ok.exfs L z hL
   exact⟨hk,⟨L,_,hf,hn,e,hd⟩,ih (λb hb=>hs b (by unfold frs;rw[filterMap_cons,hf];exact mem_cons_of_mem _ hb)) hr⟩
 exact all X.outer (λ_ hb=>hb) I.ok.funs
theorem Inv.stack (I:Inv X pins σ H s):s.heap.FunFrames X.base X.stack:=by
 rcases I.ok.stk with e|⟨e,hf⟩
 . rw[e];exact I.funs
 . rw[e];obtain⟨m,hn,_⟩:=I.loc;refine .cons (by rw[I.ok.kind];decide) hf hn ?_ I.funs;exact Heap.get?_none_of_le (Nat.le_trans I.ok.bsz I.ok.above)
theorem Inv.stkSub (I:Inv X pins σ H s):∀ b∈frs X.stack,b∈X.env.locals :: X.fs:=λb hb=>by
 rcases I.ok.stk with e|⟨e,hf⟩
 . rw[e]at hb;exact mem_cons_of_mem _ hb
 . rw[e]at hb;unfold frs at hb;rw[filterMap_cons,hf]at hb;exact hb
theorem Inv.stkFree (I:Inv X pins σ H s):∀ b∈frs X.stack,H b=none:=λb hb=>by
 rcases mem_cons.mp (I.stkSub b hb) with e|hb
 . rw[e];exact I.free
 . obtain⟨_,o,ho,_⟩:=I.ok.funs.mem hb;exact I.base.free b o ho (I.ok.frf b hb) λz=>I.ok.exfs b z hb
theorem Inv.step {g':Array GenState}{t':Nat}{d':Drawn}{ch:List Addr}(I:Inv X pins σ H s)
 (hch:∀ b∈ch,(b∈X.ex\/X.s₀.heap.objs.size <= b)/\b≠X.env.locals/\(∀ x c,X.env.cells.lookup x=some c->c≠b)/\∀ p∈X.pn++pins,p.1≠b)
 (keep:∀ b o,b≠X.env.locals->b ∉ X.fs->b ∉ ch->s.heap.get? b=some o->H b=none->h'.get? b=some o)
 (slot:∀ b o,b≠X.env.locals->b∈X.fs->b ∉ ch->s.heap.get? b=some o->H b=none->∃ sl,h'.get? b=some { o with slots:=sl }) (free:∀ b o,b ∉ ch->s.heap.get? b=some o->H b=none->H' b=none)
 (there:∀ b o,b ∉ ch->s.heap.get? b=some o->∃ o',h'.get? b=some o')
 (tups:∀ b xs,H b=some (.tup xs)->H' b=some (.tup xs)) (frzs:∀ b o u,H b=some (.frz o u)->H' b=some (.frz o u)) (tbls:∀ b ps,H b=some (.tbl ps)->∃ more,H' b=some (.tbl (ps++more)))
 (ns:∀ m,s.heap.Ns X.env.locals m->h'.Ns X.env.locals m) (hok:HOk X.prog X.w H' h') (hg:AllBare g') :
 Inv X pins σ H' { s with heap:=h',gens:=g',drawn:=d',toks:=t' }:=by
 have neL:∀ b o,X.s₀.heap.get? b=some o->b≠X.env.locals:=λb o e=>ne_of_lt (Nat.lt_of_lt_of_le (Heap.lt_size e) I.ok.above)
 have neC:∀ b o,X.s₀.heap.get? b=some o->b ∉ X.ex->b ∉ ch:=λb o e hx hb=>by
  rcases(hch b hb).1 with z|z
  . exact hx z
  . exact absurd (Nat.lt_of_lt_of_le (Heap.lt_size e) z) (Nat.lt_irrefl _)
 have cellK:∀ x c,X.env.cells.lookup x=some c->∀ v,s.heap.IsCell c v->h'.IsCell c v:=λx c e v ⟨o,ho,hd⟩=>by
  have nch:c ∉ ch:=λz=>(hch c z).2.2.1 x c e rfl
  by_cases hc:c∈X.fs
  . obtain⟨sl,q⟩:=slot c o (I.cne x c e) hc nch ho (I.freeC x c e);exact⟨_,q,hd⟩
  . exact⟨o,keep c o (I.cne x c e) hc nch ho (I.freeC x c e),hd⟩
 refine⟨I.ok,I.os,hg,⟨λb o e n hb hx=>?_,λb o e n hb hx=>?_,λb o e n hx=>?_,λb o e hx=>?_,λb xs e=>tups b xs (I.base.tups b xs e),λb o xs e=>frzs b o xs (I.base.frzs b o xs e),λb ps e=>?_⟩,?_,λx c e=>?_,?_,λx c e=>?_,λp hp=>?_,hok,I.len⟩
 . exact keep b o (neL b o e) hb (neC b o e hx) (I.base.keep b o e n hb hx) (I.base.free b o e n hx)
 . obtain⟨sl,e1⟩:=I.base.slot b o e n hb hx;obtain⟨sl',e2⟩:=slot b _ (neL b o e) hb (neC b o e hx) e1 (I.base.free b o e n hx);exact⟨sl',e2⟩
 . obtain⟨o',e1⟩:=I.base.there b o e hx;exact free b o' (neC b o e hx) e1 (I.base.free b o e n hx)
 . obtain⟨o',e1⟩:=I.base.there b o e hx;exact there b o' (neC b o e hx) e1
 . obtain⟨m1,e1⟩:=I.base.tbls b ps e;obtain⟨m2,e2⟩:=tbls b _ e1;exact⟨m1++m2,by rw[e2,Array.append_assoc]⟩
 . obtain⟨m,hn,hl⟩:=I.loc;refine⟨m,ns m hn,λi x v e1 e2 e3=>?_⟩;obtain⟨u,r,l⟩:=hl i x v e1 e2 e3;refine⟨u,r,?_⟩;rcases l with l|⟨k,c,e,z⟩
   . exact .inl l
   . exact .inr ⟨k,c,e,cellK x c e _ z⟩
 . obtain⟨v,z⟩:=I.cell x c e;exact⟨v,cellK x c e v z⟩
 . obtain⟨m,⟨o,_,_,ho,_⟩,_⟩:=I.loc;exact free _ o (λz=>(hch _ z).2.1 rfl) ho I.free
 . obtain⟨v,o,ho,hd⟩:=I.cell x c e;exact free c o (λz=>(hch c z).2.2.1 x c e rfl) ho (I.freeC x c e)
 . obtain⟨e,n,ne,nf,d⟩:=I.pin p hp;have nch:p.1 ∉ ch:=λz=>(hch p.1 z).2.2.2 p hp rfl
   exact⟨keep p.1 p.2 ne nf nch e n,free p.1 p.2 nch e n,ne,nf,d⟩
theorem Inv.un {t':Nat}(I:Inv X pins σ H s) (u:Un X.fs [] H H' s.heap h') (hok:HOk X.prog X.w H' h'):Inv X pins σ H' { s with heap:=h',toks:=t' }:=by
 obtain⟨m,⟨o,es,ep,ho,r⟩,_⟩:=id I.loc;obtain⟨sl,hL⟩:=u.any ho I.free (by simp);exact I.step (g':=s.gens) (d':=s.drawn) (ch:=[]) (λ_ z=>nomatch z) (λb o _ hb _ e n=>u.keep b o e n hb (by simp)) (λb o _ hb _ e n=>u.slot b o e n hb (by simp)) (λb o _ e n=>u.free b o e n (by simp)) (λb o _ e=>u.there b o e (by simp)) u.tups u.frzs u.tbls (λm' hm=>by
  obtain⟨o',es',ep',ho',r'⟩:=hm;rw[ho]at ho';cases ho';exact⟨_,es',ep',hL,r'⟩) hok I.bare
theorem Inv.call {g':Array GenState}{t':Nat}{d':Drawn}{ch:List Addr}(I:Inv X pins σ H s) (u:Un (frs X.stack) ch H H' s.heap h') (hok:HOk X.prog X.w H' h') (hg:AllBare g')
 (hch:∀ b∈ch,(b∈X.ex\/X.s₀.heap.objs.size <= b)/\b≠X.env.locals/\(∀ x c,X.env.cells.lookup x=some c->c≠b)/\∀ p∈X.pn++pins,p.1≠b) :
 Inv X pins σ H' { s with heap:=h',gens:=g',drawn:=d',toks:=t' }:=by
 obtain⟨m,⟨o,es,ep,ho,r⟩,_⟩:=id I.loc;obtain⟨sl,hL⟩:=u.any ho I.free λz=>(hch _ z).2.1 rfl
 exact I.step (ch:=ch) hch (λb o hL hb hc e n=>u.keep b o e n (λz=>(mem_cons.mp (I.stkSub b z)).elim hL hb) hc) (λb o _ _ hc e n=>u.any e n hc) (λb o hc e n=>u.free b o e n hc) (λb o hc e=>u.there b o e hc) u.tups u.frzs u.tbls (λm' hm=>by
  obtain⟨o',es',ep',ho',r'⟩:=hm;rw[ho]at ho';cases ho';exact⟨_,es',ep',hL,r'⟩) hok hg
theorem Inv.turned {t':Nat}{it:Addr}(I:Inv X pins σ H s) (k:∀ b o,b≠it->s.heap.get? b=some o->h'.get? b=some o) (hn:H it=none) (hL:it≠X.env.locals)
 (h1:it∈X.ex\/X.s₀.heap.objs.size <= it) (h2:∀ x c,X.env.cells.lookup x=some c->c≠it) (h3:∀ p∈X.pn++pins,p.1≠it):Inv X pins σ H { s with heap:=h',toks:=t' }:=by
 have nit:∀ b u,H b=some u->b≠it:=λb u e z=>by rw[z,hn]at e;cases e
 refine I.step (g':=s.gens) (d':=s.drawn) (ch:=[it]) (λb hb=>?_) (λb o _ _ hc e _=>k b o (λz=>hc (by simp[z])) e) (λb o _ _ hc e _=>⟨o.slots,k b o (λz=>hc (by simp[z])) e⟩) (λ_ _ _ _ n=>n)
  (λb o hc e=>⟨o,k b o (λz=>hc (by simp[z])) e⟩) (λ_ _ e=>e) (λ_ _ _ e=>e) (λb ps e=>⟨#[],by rw[e];simp⟩) (λm hm=>?_) (λb u e=>?_) I.bare
 . have e:b=it:=by simpa using hb
   subst e;exact⟨h1,hL,h2,h3⟩
 . obtain⟨o,es,ep,ho,r⟩:=hm;exact⟨o,es,ep,k _ o (Ne.symm hL) ho,r⟩
 . refine(I.hok b u e).stay (λc v hc q=>k c v ?_ q) (λ_ q=>q) λ_ _ q=>q
   rcases hc with z|z
   . rw[z];exact nit b u e
   . exact nit c _ z
theorem Inv.tok (I:Inv X pins σ H s) (t:Nat):Inv X pins σ H { s with toks:=t }:=I.un (h':=s.heap) (t':=t) Un.refl I.hok
theorem Inv.kept {t':Nat}(I:Inv X pins σ H s) (k:∀ b u,s.heap.get? b=some u->h'.get? b=some u):Inv X pins σ H { s with heap:=h',toks:=t' }:=I.un (Un.kept k) (I.hok.kept k)
theorem Inv.laid {a:Addr}{o:HO}{t':Nat}(I:Inv X pins σ H s) (k:∀ b u,s.heap.get? b=some u->h'.get? b=some u) (hp:s.heap.objs.size <= a) (new:cT X.prog X.w (upd H a o) h' a o) :
 Inv X pins σ (upd H a o) { s with heap:=h',toks:=t' }:=I.un (Un.laid k hp (I.hok.fresh hp)) (I.hok.laid k hp new)
theorem Inv.write {x e:Addr}{o:HO}{t':Nat}(I:Inv X pins σ H s) (mu:Mut (H x)) (he:e=x\/H e=some (.own x)) (k:∀ b u,b≠e->s.heap.get? b=some u->h'.get? b=some u) (heo:∃ u,h'.get? e=some u)
 (new:cT X.prog X.w (upd H x o) h' x o):Inv X pins σ (upd H x o) { s with heap:=h',toks:=t' }:=I.un (Un.write mu he k heo) (I.hok.write mu he k heo new)
theorem Inv.pins_of {pins':List (Addr × Obj)}(I:Inv X pins σ H s) (h:∀ p∈pins',s.heap.get? p.1=some p.2/\H p.1=none/\p.1≠X.env.locals/\p.1 ∉ X.fs/\∀ v,p.2.data≠.cell v):Inv X pins' σ H s :=
 ⟨I.ok,I.os,I.bare,I.base,I.loc,I.cell,I.free,I.freeC,λp hp=>(mem_append.mp hp).elim (λz=>I.pin p (List.mem_append_left _ z)) (h p),I.hok,I.len⟩
theorem wb {N:List Str}(hN:N.Nodup) {i j:Nat}{x:Str}(a:N[i]?=some x) (b:N[j]?=some x):i=j:=by
 obtain⟨h1,e1⟩:=List.getElem?_eq_some_iff.mp a;obtain⟨h2,e2⟩:=List.getElem?_eq_some_iff.mp b;exact(List.getElem_inj hN).mp (e1.trans e2.symm)
theorem zf {M:Model}{A:Around}{E:Value->Shared->Prop}{i:Nat}{x:Str}{v:V}{u:Value}{Q:Unit->Shared->Prop}(I:Inv X pins σ H s) (hN:X.N.Nodup) (hi:X.N[i]?=some x) (hx:Loc X.env.scope x) (r:bR v u)
 (h:∀ s',Inv X pins (σ.set i (some v)) H s'->(∃ a,Heap.SameBut a s.heap s'.heap/\(a=X.env.locals\/X.env.cells.lookup x=some a))->Q () s') (hf:X.fn x=true\/X.env.scope.names.lookup x=some .local:=by first|exact .inl rfl|exact .inr rfl|assumption):wpAny M A (storeName X.env x u) Q E s:=by
 obtain⟨m,hn,hl⟩:=id I.loc;have hcls:(X.env.scope.kind == .class || (X.env.scope.kind == .module && X.env.locals != X.env.globals))=false:=by rw[I.ok.kind];rfl
 have hiσ:i < σ.length:=by rw[I.len];exact(List.getElem?_eq_some_iff.mp hi).1
 have cne:=I.cne;have tracked:∀ {a:Addr} {h':Heap},(∃ o,s.heap.get? a=some o/\H a=none)->Heap.SameBut a s.heap h'->HOk X.prog X.w H h':=λ{a h'} ha hs b ob e=>by
  obtain⟨_,_,hfree⟩:=ha;refine(I.hok b ob e).stay (λc w' hc q=>(hs.2 c ?_).trans q) (λ_ q=>q) λ_ _ q=>q
  rintro rfl;rcases hc with rfl|hc
  . rw[hfree]at e;cases e
  . rw[hfree]at hc;cases hc
 rcases hx with hk|hk
 . refine wpAny_storeName_local hk hn (λh' hn' hs=>?_) hcls;obtain⟨oL,_,_,hoL,_⟩:=id hn;refine h _ ⟨I.ok,I.os,I.bare,⟨λb o e n hb hx=>?_,λb o e n hb hx=>?_,I.base.free,λb o e hx=>?_,I.base.tups,I.base.frzs,I.base.tbls⟩,⟨_,hn',λj y v' e1 e2 e3=>?_⟩,λy c e=>?_,I.free,I.freeC,λp hp=>?_,tracked ⟨oL,hoL,I.free⟩ hs,by simpa using I.len⟩ ⟨_,hs,.inl rfl⟩
   . exact(hs.2 b (ne_of_lt (Nat.lt_of_lt_of_le (Heap.lt_size e) I.ok.above))).trans (I.base.keep b o e n hb hx)
   . obtain⟨sl,e1⟩:=I.base.slot b o e n hb hx;exact⟨sl,(hs.2 b (ne_of_lt (Nat.lt_of_lt_of_le (Heap.lt_size e) I.ok.above))).trans e1⟩
   . obtain⟨o',e1⟩:=I.base.there b o e hx;exact⟨o',(hs.2 b (ne_of_lt (Nat.lt_of_lt_of_le (Heap.lt_size e) I.ok.above))).trans e1⟩
   . by_cases hj:j=i
     . subst hj;rw[hi]at e1;cases e1;rw[List.getElem?_set_self hiσ]at e2;cases e2;exact⟨u,r,.inl ⟨hk,by simp⟩⟩
     . rw[List.getElem?_set_ne (Ne.symm hj)]at e2;obtain⟨u',r',q⟩:=hl j y v' e1 e2 e3;refine⟨u',r',?_⟩;rcases q with⟨k,e⟩|⟨k,c,e,z⟩
       . refine .inl ⟨k,?_⟩;have:y≠x:=λe=>hj (wb hN e1 (e ▸ hi))
         simp[this,e]
       . exact .inr ⟨k,c,e,z.sameBut hs (cne y c e)⟩
   . obtain⟨w',z⟩:=I.cell y c e;exact⟨w',z.sameBut hs (cne y c e)⟩
   . obtain⟨e,n,ne,nf,d⟩:=I.pin p hp;exact⟨(hs.2 p.1 ne).trans e,n,ne,nf,d⟩
 . have hfn:X.fn x=true:=by
    rcases hf with z|z
    . exact z
    . rw[z]at hk;cases hk
   obtain⟨c,hc⟩:=I.ok.has x (.inl hk);obtain⟨w',z⟩:=I.cell x c hc;refine wpAny_storeName_cell I.ok.kind hk hc z (λh' hc' hs=>?_);obtain⟨oc,hoc,hocd⟩:=id z;refine h { s with heap:=h' } ⟨I.ok,I.os,I.bare,⟨λb o e n hb hx=>?_,λb o e n hb hx=>?_,I.base.free,λb o e hx=>?_,I.base.tups,I.base.frzs,I.base.tbls⟩,⟨m,hn.sameBut hs (Ne.symm (cne x c hc)),λj y v' e1 e2 e3=>?_⟩,λy c' e=>?_,I.free,I.freeC,λp hp=>?_,tracked ⟨oc,hoc,I.freeC x c hc⟩ hs,by simpa using I.len⟩ ⟨c,hs,.inr hc⟩
   . exact(hs.2 b (ne_of_lt (Nat.lt_of_lt_of_le (Heap.lt_size e) (I.ok.cab x c hfn hc)))).trans (I.base.keep b o e n hb hx)
   . obtain⟨sl,e1⟩:=I.base.slot b o e n hb hx;exact⟨sl,(hs.2 b (ne_of_lt (Nat.lt_of_lt_of_le (Heap.lt_size e) (I.ok.cab x c hfn hc)))).trans e1⟩
   . obtain⟨o',e1⟩:=I.base.there b o e hx;exact⟨o',(hs.2 b (ne_of_lt (Nat.lt_of_lt_of_le (Heap.lt_size e) (I.ok.cab x c hfn hc)))).trans e1⟩
   . by_cases hj:j=i
     . subst hj;rw[hi]at e1;cases e1;rw[List.getElem?_set_self hiσ]at e2;cases e2;exact⟨u,r,.inr ⟨.inl hk,c,hc,hc'⟩⟩
     . rw[List.getElem?_set_ne (Ne.symm hj)]at e2;obtain⟨u',r',q⟩:=hl j y v' e1 e2 e3;refine⟨u',r',?_⟩;rcases q with q|⟨k,c',e,z'⟩
       . exact .inl q
       . refine .inr ⟨k,c',e,z'.sameBut hs ?_⟩;rintro rfl;exact hj (wb hN e1 (I.ok.inj _ _ _ e hc ▸ hi))
   . by_cases hcc:c'=c
     . subst hcc;exact⟨_,hc'⟩
     . obtain⟨w2,z2⟩:=I.cell y c' e;exact⟨w2,z2.sameBut hs hcc⟩
   . obtain⟨e,n,ne,nf,d⟩:=I.pin p hp;refine⟨(hs.2 p.1 ?_).trans e,n,ne,nf,d⟩;intro q;rw[q,hoc]at e;have q':oc=p.2:=Option.some.inj e;exact d w' (by rw[<-q'];exact hocd)
theorem wn {M:Model}{A:Around}{E:Value->Shared->Prop}{i:Nat}{x:Str}{v:V}{u:Value}{Q:Unit->Shared->Prop}(I:Inv X pins σ H s) (hN:X.N.Nodup) (hi:X.N[i]?=some x) (hx:Loc X.env.scope x) (r:bR v u)
 (h:∀ s',Inv X pins (σ.set i (some v)) H s'->Q () s') (hf:X.fn x=true\/X.env.scope.names.lookup x=some .local:=by first|exact .inl rfl|exact .inr rfl|assumption):wpAny M A (storeName X.env x u) Q E s :=
 zf I hN hi hx r (λs' I' _=>h s' I') hf
theorem Inv.call' {s':Shared}{ch:List Addr}(I:Inv X pins σ H s) (ho:s'.os=s.os) (u:Un (frs X.stack) ch H H' s.heap s'.heap) (hok:HOk X.prog X.w H' s'.heap) (hg:AllBare s'.gens)
 (hch:∀ b∈ch,(b∈X.ex\/X.s₀.heap.objs.size <= b)/\b≠X.env.locals/\(∀ x c,X.env.cells.lookup x=some c->c≠b)/\∀ p∈X.pn++pins,p.1≠b):Inv X pins σ H' s':=by
 obtain⟨h',g',d',t',o'⟩:=s';have e:o'=s.os:=ho;subst e;exact I.call (g':=g') (t':=t') (d':=d') u hok hg hch
end
abbrev XK:=Value->Option Addr->Hp->Prop
abbrev St:=List (Option V)
abbrev VK:=V->Hp->Prop
abbrev TE:=St->Hp->VK->Prop
abbrev TT:=St->Hp->(Bool->Hp->Prop)->Prop
abbrev TA:=St->Hp->(List V->Hp->Prop)->Prop
structure Ends where
 nx:St->Hp->Prop
 rt:VK
 bk:St->Hp->Prop:=λ_ _=>False
 ct:St->Hp->Prop:=λ_ _=>False
abbrev TS:=Ends->St->Hp->Prop
def EP (X:Cx) (pins:List (Addr × Obj)) (σ:St) (Q:VK) (u:Value) (s':Shared):Prop:=∃ v H',Inv X pins σ H' s'/\bR v u/\Q v H'
def TP (X:Cx) (pins:List (Addr × Obj)) (σ:St) (Q:Bool->Hp->Prop) (b:Bool) (s':Shared):Prop:=∃ H',Inv X pins σ H' s'/\Q b H'
def AP (X:Cx) (pins:List (Addr × Obj)) (σ:St) (Q:List V->Hp->Prop) (us:List Value) (s':Shared):Prop:=∃ vs H',Inv X pins σ H' s'/\bC vs us/\Q vs H'
def SP (X:Cx) (pins:List (Addr × Obj)) (D:Ends) (f:Flow) (s':Shared):Prop :=
 match f with
|.next=>∃ σ' H',Inv X pins σ' H' s'/\D.nx σ' H'
|.brk=>∃ σ' H',Inv X pins σ' H' s'/\D.bk σ' H'
|.cont=>∃ σ' H',Inv X pins σ' H' s'/\D.ct σ' H'
|.ret u=>∃ v σ' H',Inv X pins σ' H' s'/\bR v u/\D.rt v H'
def PE (X:Cx) (e:Expr) (t:TE):Prop :=
 ∀ (pins:List (Addr × Obj)) (s:Shared) (σ:St) (H:Hp) (Q:VK),Inv X pins σ H s->t σ H Q->wpAny (model X.prog X.w) X.A (eval e X.env) (EP X pins σ Q) X.xe s
def PT (X:Cx) (e:Expr) (t:TT):Prop :=
 ∀ (pins:List (Addr × Obj)) (s:Shared) (σ:St) (H:Hp) (Q:Bool->Hp->Prop),Inv X pins σ H s->t σ H Q->wpAny (model X.prog X.w) X.A (isTrue e X.env (eval e X.env)) (TP X pins σ Q) X.xe s
def PW (X:Cx) (e:Expr) (t:TT):Prop :=
 ∀ (whole:Sem Value) (pins:List (Addr × Obj)) (s:Shared) (σ:St) (H:Hp) (Q:Bool->Hp->Prop),Inv X pins σ H s->t σ H Q->wpAny (model X.prog X.w) X.A (isTrue e X.env whole) (TP X pins σ Q) X.xe s
theorem PW.pt {X:Cx}{e:Expr}{t:TT}(h:PW X e t):PT X e t:=h _
def PA (X:Cx) (es:List Expr) (t:TA):Prop :=
 ∀ (pos:Pos) (pins:List (Addr × Obj)) (s:Shared) (σ:St) (H:Hp) (Q:List V->Hp->Prop),Inv X pins σ H s->t σ H Q->wpAny (model X.prog X.w) X.A (spliced (backTo pos (starEach es X.env))) (AP X pins σ Q) X.xe s
def PS (X:Cx) (st:Stmt) (t:TS):Prop :=
 ∀ (pins:List (Addr × Obj)) (s:Shared) (σ:St) (H:Hp) (D:Ends),Inv X pins σ H s->t D σ H->wpAny (model X.prog X.w) X.A (exec st X.env) (SP X pins D) X.xe s
def PSs (X:Cx) (st:List Stmt) (t:TS):Prop :=
 ∀ (pins:List (Addr × Obj)) (s:Shared) (σ:St) (H:Hp) (D:Ends),Inv X pins σ H s->t D σ H->wpAny (model X.prog X.w) X.A (execs st X.env) (SP X pins D) X.xe s
theorem thn {α:Type}{t:Sem α}{Q Q':α->Shared->Prop}{M:Model}{A:Around}{E:Value->Shared->Prop}{s:Shared}(h:wpAny M A t Q E s) (hQ:∀ a s,Q a s->Q' a s):wpAny M A t Q' E s:=wpAny_mono h hQ λ_ _ x=>x
section
variable {X:Cx}
def pc (i:Nat):TE:=λσ H Q=>∃ v,σ[i]?=some (some v)/\Q v H
def tC (v:V):TE:=λ_ H Q=>Q v H
theorem Ep {i:Nat}{x:Str}{pos:Pos}(hN:X.N[i]?=some x) (hv:Vis X.env.scope x) (hd:(x == ("__debug__":Str))=false:=by decide) (hcd:(x == ("__classdict__":Str))=false:=by decide):PE X (.Name x pos) (pc i):=by
 intro pins s σ H Q I h;obtain⟨v,e,h⟩:=h;obtain⟨m,hn,hl⟩:=I.loc;obtain⟨u,r,l⟩:=hl i x v hN e hv;have fin:EP X pins σ Q u s:=⟨v,H,I,r,h⟩
 rcases l with⟨hk,hm⟩|⟨hk,c,hc,hcell⟩
 . exact wpAny_Name (wpAny_loadName_local I.ok.kind hk hn hm fin) hd
 . rcases hk with hk|hk
   . exact wpAny_Name (wpAny_loadName_cell I.ok.kind hk hc hcell fin) hd
   . exact wpAny_Name (wpAny_loadName_free I.ok.kind hk hc hcell fin hcd) hd
theorem ac {i j pos}:PE X (.Constant (.int i) j pos) (tC (.int i)):=λ_ _ _ H _ I h=>wpAny_Constant_int ⟨.int i,H,I.tok _,⟨_,rfl⟩,h⟩
theorem eg {b j pos}:PE X (.Constant (.bool b) j pos) (tC (.bl b)):=λ_ _ _ H _ I h=>Constant_bool ⟨.bl b,H,I,rfl,h⟩
theorem cq {j pos}:PE X (.Constant .none j pos) (tC .non):=λ_ _ _ H _ I h=>Constant_none ⟨.non,H,I,rfl,h⟩
theorem ai {x j pos}:PE X (.Constant (.str x) j pos) (tC (.str x)):=λ_ _ _ H _ I h=>Calls.Constant_str ⟨.str x,H,I.tok _,⟨_,rfl⟩,h⟩
def Gl (X:Cx) (x:Str):Prop:=X.env.kindOf x=some .globalImplicit
theorem ik {E:Value->Shared->Prop}{pins:List (Addr × Obj)}{s:Shared}{σ:St}{H:Hp}{x:Str}{u:Value}{pos:Pos}{Q:Value->Shared->Prop}(I:Inv X pins σ H s) (hg:Gl X x) (hm:X.mg x=some u) (h:Q u s)
 (hd:(x == ("__debug__":Str))=false:=by decide):wpAny (model X.prog X.w) X.A (eval (.Name x pos) X.env) Q E s :=
 Calls.Name_function_global I.ok.kind hg (Calls.loadGlobal_global (by rw[I.ok.glob];exact I.mod.glob.keeps I.bk) hm h) hd
theorem m5 {E:Value->Shared->Prop}{pins:List (Addr × Obj)}{s:Shared}{σ:St}{H:Hp}{x:Str}{u:Value}{pos:Pos}{Q:Value->Shared->Prop}(I:Inv X pins σ H s) (hg:Gl X x) (hm:X.mg x=none) (hv:bootBuiltins x=some u) (h:Q u s)
 (hn:x≠"__name__":=by decide) (hd:(x == ("__debug__":Str))=false:=by decide):wpAny (model X.prog X.w) X.A (eval (.Name x pos) X.env) Q E s:=by
 obtain⟨mb,h1,h2⟩:=I.mod.blt;exact Calls.Name_function_global I.ok.kind hg (Calls.loadGlobal_builtin (by rw[I.ok.glob];exact I.mod.glob.keeps I.bk) hm (by rw[I.ok.blt];exact h1.keeps I.bk) ((h2 x hn).trans hv) h) hd
theorem iZ {x:Str}{v:V}{u:Value}{pos:Pos}(hg:Gl X x) (hm:X.mg x=some u) (r:bR v u) (hd:(x == ("__debug__":Str))=false:=by decide):PE X (.Name x pos) (tC v) :=
 λ_ _ _ H _ I h=>ik I hg hm ⟨v,H,I,r,h⟩ hd
theorem cR {x:Str}{v:V}{u:Value}{pos:Pos}(hg:Gl X x) (hm:X.mg x=none) (hv:bootBuiltins x=some u) (r:bR v u) (hn:x≠"__name__":=by decide) (hd:(x == ("__debug__":Str))=false:=by decide):PE X (.Name x pos) (tC v) :=
 λ_ _ _ H _ I h=>m5 I hg hm hv ⟨v,H,I,r,h⟩ hn hd
variable {a b:Expr}{ta tb:TE}{pos:Pos}
def PC (X:Cx) (op:CmpOp) (a b:Expr) (t:TE):Prop :=
 ∀ (pins:List (Addr × Obj)) (s:Shared) (σ:St) (H:Hp) (Q:VK),Inv X pins σ H s->t σ H Q ->
  wpAny (model X.prog X.w) X.A (eval a X.env) (λv s₁=>wpAny (model X.prog X.w) X.A (eval b X.env) (λu s₂=>wpAny (model X.prog X.w) X.A (compareOp op v u) (EP X pins σ Q) X.xe s₂) X.xe s₁) X.xe s
theorem BC (b:Expr) {op:CmpOp}(h:op≠.In) (h2:op≠.NotIn):behindInMarks op b=false:=by
 have e1:(op == CmpOp.In)=false:=by cases op<;>first|rfl|exact absurd rfl h
 have e2:(op == CmpOp.NotIn)=false:=by cases op<;>first|rfl|exact absurd rfl h2
 cases b<;>simp[behindInMarks,e1,e2]
def tB (t:TE):TT:=λσ H Q=>t σ H λx H1=>∃ c,x=.bl c/\Q c H1
theorem BQ {op:CmpOp}{t:TE}(h:PC X op a b t) (h1:behindInMarks op b=false:=by first|exact BC _ (by decide) (by decide)|rfl):PT X (.Compare a [op] [b] pos) (tB t):=by
 intro pins s σ H Q I hw;refine wpAny_isTrue_Compare1 (thn (h pins s σ H _ I hw) λv s1 h1=>thn h1 λu s2 h2=>thn h2 λc s3 ⟨x,H1,I1,r1,q1⟩=>?_) h1;obtain⟨d,rfl,q⟩:=q1;cases r1;exact wpAny_truthy_bool ⟨H1,I1,q⟩
theorem bT {e:Expr}{t:TE}(h:PE X e t) (he:∀ whole,isTrue e X.env whole=(do let v <-whole;standAt e.pos;holding [v] (truthy v)):=by intro _;rfl):PT X e (tB t):=by
 intro pins s σ H Q I hw;refine isTrue_plain (thn (h pins s σ H _ I hw) λv s1 ⟨x,H1,I1,r1,q1⟩=>?_) (he _);obtain⟨d,rfl,q⟩:=q1;cases r1;exact wpAny_truthy_bool ⟨H1,I1,q⟩
variable {tA tB':TT}{rest:List Expr}
def Hx (t u:TT):TT:=λσ H Q=>t σ H λc H1=>if c=true then u σ H1 Q else Q false H1
def tOr (t u:TT):TT:=λσ H Q=>t σ H λc H1=>if c=true then Q true H1 else u σ H1 Q
def HZ (t:TT):TT:=λσ H Q=>t σ H λc H1=>Q (!c) H1
theorem lE (ha:PT X a tA):PW X (.BoolOp .And [a] pos) tA:=by
 intro wh pins s σ H Q I h;refine isTrue_and (thn (ha pins s σ H Q I h) λc s1 e=>?_);cases c with
|true=>exact isTrue_and_nil e
|false=>exact e
theorem qe (ha:PT X a tA):PW X (.BoolOp .Or [a] pos) tA:=by
 intro wh pins s σ H Q I h;refine isTrue_or (thn (ha pins s σ H Q I h) λc s1 e=>?_);cases c with
|false=>exact isTrue_or_nil e
|true=>exact e
theorem m6 (ha:PT X a tA) (hb:PW X (.BoolOp .And (b :: rest) pos) tB'):PW X (.BoolOp .And (a :: b :: rest) pos) (Hx tA tB'):=by
 intro wh pins s σ H Q I h;refine isTrue_and (thn (ha pins s σ H _ I h) λc s1 ⟨H1,I1,q1⟩=>?_);cases c with
|true=>exact hb wh pins s1 σ H1 Q I1 q1
|false=>exact⟨H1,I1,q1⟩
theorem uH (ha:PT X a tA) (hb:PW X (.BoolOp .Or (b :: rest) pos) tB'):PW X (.BoolOp .Or (a :: b :: rest) pos) (tOr tA tB'):=by
 intro wh pins s σ H Q I h;refine isTrue_or (thn (ha pins s σ H _ I h) λc s1 ⟨H1,I1,q1⟩=>?_);cases c with
|true=>exact⟨H1,I1,q1⟩
|false=>exact hb wh pins s1 σ H1 Q I1 q1
theorem fT (ha:PT X a tA):PT X (.UnaryOp .Not a pos) (HZ tA):=by
 intro pins s σ H Q I h;exact isTrue_not (ha pins s σ H (λc H1=>Q (!c) H1) I h)
def GD (ta tb:TE):TE:=λσ H Q=>ta σ H λx H1=>∃ c,x=.bl c/\if c=true then tb σ H1 Q else Q (.bl false) H1
def FT (ta:TE):TE:=λσ H Q=>ta σ H λx H1=>∃ c,x=.bl c/\Q (.bl (!c)) H1
theorem vD {op}{t:TE}(h:PE X a t):PE X (.BoolOp op [a] pos) t:=λpins s σ H Q I hw=>BoolOp_one (h pins s σ H Q I hw)
theorem sU (ha:PE X a ta) (hb:PE X (.BoolOp .And (b :: rest) pos) tb):PE X (.BoolOp .And (a :: b :: rest) pos) (GD ta tb):=by
 intro pins s σ H Q I h;refine BoolOp_and (thn (ha pins s σ H _ I h) λv s1 ⟨x,H1,I1,r1,q1⟩=>?_);obtain⟨c,rfl,q1⟩:=q1;cases r1;refine wpAny_truthy_bool ?_;cases c with
|true=>exact hb pins s1 σ H1 Q I1 q1
|false=>exact⟨.bl false,H1,I1,rfl,q1⟩
theorem C1 (ha:PE X a ta):PE X (.UnaryOp .Not a pos) (FT ta):=by
 intro pins s σ H Q I h;refine UnaryOp_ (thn (ha pins s σ H _ I h) λv s1 ⟨x,H1,I1,r1,q1⟩=>?_);obtain⟨c,rfl,q1⟩:=q1;cases r1;exact not_of (wpAny_truthy_bool ⟨.bl (!c),H1,I1,rfl,q1⟩)
def tIf (t:TT) (ta tb:TE):TE:=λσ H Q=>t σ H λc H1=>if c=true then ta σ H1 Q else tb σ H1 Q
theorem mS {c:Expr}(hc:PT X c tA) (ha:PE X a ta) (hb:PE X b tb):PE X (.IfExp c a b pos) (tIf tA ta tb):=by
 intro pins s σ H Q I h;refine wpAny_IfExp (thn (hc pins s σ H _ I h) λd s1 ⟨H1,I1,q1⟩=>?_);cases d with
|true=>exact ha pins s1 σ H1 Q I1 q1
|false=>exact hb pins s1 σ H1 Q I1 q1
end
def SqL (K:PySem.W.Frag) (H:Hp) (a:Addr) (xs:List V):Prop :=
 Rd H a (.lst xs) \/
  ∃ (o:Obj) (its:Array Value) (n:Nat),K.lookup a=some o/\o.cls=.type "list"/\o.dict=none/\o.data=.seq its n/\its.size <= sizeLine/\bC xs its.toList
def SqT (K:PySem.W.Frag) (H:Hp) (a:Addr) (xs:List V):Prop :=
 Rd H a (.tup xs) \/
  ∃ (o:Obj) (its:Array Value) (n:Nat),K.lookup a=some o/\o.cls=.type "tuple"/\o.data=.seq its n/\its.size <= sizeLine/\bC xs its.toList
def HY:Value->Option V
|.none=>some .non
|.bool b=>some (.bl b)
|.int i _=>some (.int i)
|.str x _=>some (.str x)
|.bytes b _=>some (.byt b)
|.float b _=>some (.flt b)
|.ref a=>some (.ref a)
|.type n=>some (.ty n)
|_=>none
theorem bR.abs {x:V}{u:Value}(r:bR x u):HY u=some x:=by
 cases x with
|non=>cases r;rfl
|bl _=>cases r;rfl
|int _=>obtain⟨t,rfl⟩:=r;rfl
|str _=>obtain⟨t,rfl⟩:=r;rfl
|byt _=>obtain⟨t,rfl⟩:=r;rfl
|flt _=>obtain⟨t,rfl⟩:=r;rfl
|ref _=>cases r;rfl
|ty _=>cases r;rfl
theorem bR.inj {x y:V}{u:Value}(r:bR x u) (q:bR y u):x=y:=Option.some.inj (r.abs.symm.trans q.abs)
theorem bC.inj:∀ {xs ys:List V}{us:List Value},bC xs us->bC ys us->xs=ys
|_,_,_,.nil,.nil=>rfl
|_,_,_,.cons r t,.cons r' t'=>by rw[r.inj r',bC.inj t t']
section
variable {X:Cx}{pins:List (Addr × Obj)}{σ:St}{H:Hp}{s:Shared}{a:Addr}{xs ys:List V}
theorem SqL.of {K:PySem.W.Frag}(h:H a=some (.lst xs)):SqL K H a xs:=.inl (.inl h)
theorem SqT.of {K:PySem.W.Frag}(h:H a=some (.tup xs)):SqT K H a xs:=.inl (.inl h)
theorem Inv.list (I:Inv X pins σ H s) (h:SqL X.K H a xs):∃ its:List Value,bC xs its/\PlainL s.heap a its.toArray/\xs.length <= sizeLine:=by
 rcases h with h|⟨o,its,n,hk,hc,hd,hs,hz,r⟩
 . obtain⟨z,its,n,r,e⟩:=h.ok I.hok;exact⟨its,r,⟨_,n,e,rfl,rfl,rfl⟩,z⟩
 . refine⟨its.toList,r,⟨o,n,I.kIn a o hk,hc,hd,by simpa using hs⟩,?_⟩;have e:=r.length;simp only[Array.length_toList]at e;omega
theorem Inv.tuple (I:Inv X pins σ H s) (h:SqT X.K H a xs):∃ its:List Value,bC xs its/\IsTup s.heap a its.toArray/\xs.length <= sizeLine:=by
 rcases h with h|⟨o,its,n,hk,hc,hs,hz,r⟩
 . obtain⟨z,its,r,p⟩:=h.ok I.hok;exact⟨its,r,p,z⟩
 . refine⟨its.toList,r,⟨o,I.kIn a o hk,hc,n,by simpa using hs⟩,?_⟩;have e:=r.length;simp only[Array.length_toList]at e;omega
theorem Inv.list_inj (I:Inv X pins σ H s) (h:SqL X.K H a xs) (h':SqL X.K H a ys):xs=ys:=by
 obtain⟨its,r,⟨o,n,e,_,_,d⟩,_⟩:=I.list h;obtain⟨its',r',⟨o',n',e',_,_,d'⟩,_⟩:=I.list h';rw[e]at e';cases e';rw[d]at d';injection d' with d1 _
 have:its=its':=by simpa using congrArg Array.toList d1
 subst this;exact r.inj r'
theorem Inv.tuple_inj (I:Inv X pins σ H s) (h:SqT X.K H a xs) (h':SqT X.K H a ys):xs=ys:=by
 obtain⟨its,r,⟨o,e,_,n,d⟩,_⟩:=I.tuple h;obtain⟨its',r',⟨o',e',_,n',d'⟩,_⟩:=I.tuple h';rw[e]at e';cases e';rw[d]at d';injection d' with d1 _
 have:its=its':=by simpa using congrArg Array.toList d1
 subst this;exact r.inj r'
end
abbrev Cx.wish (X:Cx) (E:Value->Shared->Prop):Cx:={ X with xe:=E }
abbrev Cx.nox (X:Cx):Cx:=X.wish λ_ _=>False
theorem Cx.Ok.wish {X:Cx}(ok:X.Ok) (E:Value->Shared->Prop):(X.wish E).Ok :=
 ⟨ok.mod,ok.kind,ok.glob,ok.blt,ok.above,ok.inj,ok.has,ok.cab,ok.hd,ok.frames,ok.stk,ok.exf,ok.bs,ok.bsz,ok.noex,ok.exfs,ok.funs,ok.frf⟩
theorem Cx.Ok.unwish {X:Cx}{E:Value->Shared->Prop}(ok:(X.wish E).Ok):X.Ok :=
 ⟨ok.mod,ok.kind,ok.glob,ok.blt,ok.above,ok.inj,ok.has,ok.cab,ok.hd,ok.frames,ok.stk,ok.exf,ok.bs,ok.bsz,ok.noex,ok.exfs,ok.funs,ok.frf⟩
section
variable {X:Cx}{pins:List (Addr × Obj)}{σ:St}{H:Hp}{s:Shared}{E:Value->Shared->Prop}
theorem Inv.wish (I:Inv X pins σ H s) (E:Value->Shared->Prop):Inv (X.wish E) pins σ H s:=⟨I.ok.wish E,I.os,I.bare,I.base,I.loc,I.cell,I.free,I.freeC,I.pin,I.hok,I.len⟩
theorem Inv.unwish (I:Inv (X.wish E) pins σ H s):Inv X pins σ H s:=⟨I.ok.unwish,I.os,I.bare,I.base,I.loc,I.cell,I.free,I.freeC,I.pin,I.hok,I.len⟩
theorem SP.unwish {D:Ends}{f:Flow}{s':Shared}(h:SP (X.wish E) pins D f s'):SP X pins D f s':=by
 cases f with
|next=>obtain⟨σ',H',I,q⟩:=h;exact⟨σ',H',I.unwish,q⟩
|brk=>obtain⟨σ',H',I,q⟩:=h;exact⟨σ',H',I.unwish,q⟩
|cont=>obtain⟨σ',H',I,q⟩:=h;exact⟨σ',H',I.unwish,q⟩
|ret u=>obtain⟨v,σ',H',I,r,q⟩:=h;exact⟨v,σ',H',I.unwish,r,q⟩
theorem PSs.nox {st:List Stmt}{t:TS}(h:PSs X.nox st t):PSs X st t:=λpins s σ H D I hw =>
 wpAny_mono (h pins s σ H D (I.wish _) hw) (λ_ _ q=>q.unwish) λ_ _ z=>False.elim z
end
section
variable {X:Cx}{st:Stmt}{rest:List Stmt}{t u:TS}{e:Expr}{te:TE}{pos:Pos}
def Gu:TS:=λD σ H=>D.nx σ H
def Ht (t u:TS):TS:=λD σ H=>t { D with nx:=u D } σ H
theorem aj:PSs X [] Gu:=λ_ _ σ H _ I h=>wpAny_execs_nil ⟨σ,H,I,h⟩
theorem B9 (h1:PS X st t) (h2:PSs X rest u):PSs X (st :: rest) (Ht t u):=by
 intro pins s σ H D I h;refine wpAny_execs_cons (thn (h1 pins s σ H { D with nx:=u D } I h) λf s1 q=>?_);cases f with
|next =>
  obtain⟨σ',H',I',q⟩:=q;exact h2 pins s1 σ' H' D I' q
|ret v=>exact q
|brk=>exact q
|cont=>exact q
theorem ap (h1:PS X st t):PSs X [st] t:=by
 intro pins s σ H D I h;refine wpAny_execs_cons (thn (h1 pins s σ H D I h) λf s1 q=>?_);cases f with
|next=>exact wpAny_execs_nil q
|ret v=>exact q
|brk=>exact q
|cont=>exact q
theorem Inv.quiet {pins:List (Addr × Obj)}{σ:St}{H:Hp}{s:Shared}(I:Inv X pins σ H s):interactive X.env=false:=by simp[interactive,I.ok.kind]
def G5 (te:TE):TS:=λD σ H=>te σ H λ_ H1=>D.nx σ H1
theorem b6 (he:PE X e te) (hs:swapsWith e none pos.line X.env=pure false:=by rfl):PS X (.Expr e pos) (G5 te):=by
 intro pins s σ H D I h;exact wpAny_Expr_any (thn (he pins s σ H _ I h) λv s1 ⟨x,H1,I1,r1,q1⟩=>⟨σ,H1,I1,q1⟩) I.quiet hs
def HI (te:TE):TS:=λD σ H=>te σ H D.rt
theorem ES (he:PE X e te):PS X (.Return (some e) pos) (HI te):=by
 intro pins s σ H D I h;exact wpAny_Return_some (thn (he pins s σ H _ I h) λv s1 ⟨x,H1,I1,r1,q1⟩=>⟨x,σ,H1,I1,r1,q1⟩)
def GA:TS:=λD _ H=>D.rt .non H
theorem zP:PS X (.Return none pos) GA:=λ_ _ σ H _ I h=>wpAny_Return_none ⟨.non,σ,H,I,rfl,h⟩
def HB (c:TT) (t u:TS):TS:=λD σ H=>c σ H λb H1=>if b=true then t D σ H1 else u D σ H1
theorem aL {c:Expr}{a b:List Stmt}{tc:TT}(hc:PT X c tc) (ha:PSs X a t) (hb:PSs X b u):PS X (.If c a b pos) (HB tc t u):=by
 intro pins s σ H D I h;refine wpAny_If (thn (hc pins s σ H _ I h) λd s1 ⟨H1,I1,q1⟩=>?_);cases d with
|true=>exact ha pins s1 σ H1 D I1 q1
|false=>exact hb pins s1 σ H1 D I1 q1
def Fc:TS:=λ_ _ _=>False
theorem Bw:PS X st Fc:=λ_ _ _ _ _ _ h=>h.elim
end
abbrev TG:=V->St->Hp->(St->Hp->Prop)->Prop
abbrev TGs:=List V->St->Hp->(St->Hp->Prop)->Prop
def PG (X:Cx) (target:Expr) (t:TG):Prop :=
 ∀ (pins:List (Addr × Obj)) (s:Shared) (σ:St) (H:Hp) (v:V) (u:Value) (Q:St->Hp->Prop),Inv X pins σ H s->bR v u->t v σ H Q ->
  wpAny (model X.prog X.w) X.A (assign target X.env u) (λ_ s'=>∃ σ' H',Inv X pins σ' H' s'/\Q σ' H') X.xe s
def PGs (X:Cx) (ts:List Expr) (t:TGs):Prop :=
 ∀ (pins:List (Addr × Obj)) (s:Shared) (σ:St) (H:Hp) (vs:List V) (us:List Value) (Q:St->Hp->Prop),Inv X pins σ H s->bC vs us->t vs σ H Q ->
  wpAny (model X.prog X.w) X.A (assignInOrder ((assignEach ts X.env).map (·.2)) us) (λ_ s'=>∃ σ' H',Inv X pins σ' H' s'/\Q σ' H') X.xe s
abbrev G2:=V->V->V->Hp->(Hp->Prop)->Prop
def Hf (X:Cx) (t:G2):Prop :=
 ∀ (pins:List (Addr × Obj)) (s:Shared) (σ:St) (H:Hp) (o i v:V) (ov iv u:Value) (Q:Hp->Prop),Inv X pins σ H s->bR o ov->bR i iv->bR v u->t o i v H Q ->
  wpAny (model X.prog X.w) X.A (setItem ov iv u) (λ_ s'=>∃ H',Inv X pins σ H' s'/\Q H') X.xe s
section
variable {X:Cx}{pos:Pos}
def jg (i:Nat):TG:=λv σ H Q=>Q (σ.set i (some v)) H
theorem aR {i:Nat}{x:Str}(hN:X.N.Nodup) (hi:X.N[i]?=some x) (hx:Loc X.env.scope x) (hf:X.fn x=true\/X.env.scope.names.lookup x=some .local:=by first|exact .inl rfl|exact .inr rfl|assumption):PG X (.Name x pos) (jg i):=by
 intro pins s σ H v u Q I r h;exact wpAny_assign_Name (wn I hN hi hx r (λs' I'=>⟨_,H,I',h⟩) hf)
def Eh:TGs:=λvs σ H Q=>vs=[]/\Q σ H
def lK (t:TG) (u:TGs):TGs:=λvs σ H Q=>∃ v r,vs=v :: r/\t v σ H λσ' H'=>u r σ' H' Q
theorem gn:PGs X [] Eh:=by
 intro pins s σ H vs us Q I r h;obtain⟨e,h⟩:=h;subst e;cases r;exact assignInOrder_nil ⟨σ,H,I,h⟩
theorem b8 {e:Expr}{es:List Expr}{t:TG}{u:TGs}(h1:PG X e t) (h2:PGs X es u)
 (hs:(assignEach (e :: es) X.env).map (·.2)=assign e X.env :: (assignEach es X.env).map (·.2):=by rfl):PGs X (e :: es) (lK t u):=by
 intro pins s σ H vs us Q I r h;obtain⟨v,vr,e1,h⟩:=h;subst e1;cases r with
|cons r rr =>
  rw[hs];refine assignInOrder_cons (thn (h1 pins s σ H _ _ _ I r h) λ_ s1 ⟨σ1,H1,I1,q1⟩=>?_);exact h2 pins s1 σ1 H1 _ _ Q I1 rr q1
def Ei (K:PySem.W.Frag) (n:Nat) (t:TGs):TG:=λv σ H Q=>∃ a xs,v=.ref a/\SqT K H a xs/\xs.length=n/\t xs σ H Q
theorem jw {es:List Expr}{k:Nat}{t:TGs}{n:Nat}(hc:X.calm=true) (h:PGs X es t)
 (hn:(assignEach es X.env).length=n:=by rfl) (hst:(assignEach es X.env).findIdx? (·.1)=none:=by rfl):PG X (.Tuple es k pos) (Ei X.K n t):=by
 intro pins s σ H v u Q I r hw;obtain⟨a,xs,e1,hq,hl,hw⟩:=hw;subst e1;cases r;obtain⟨its,rv,ht,hz⟩:=I.tuple hq;refine assign_Tuple_tuple (I.ok.hd hc) ht (by simp[hn,<-hl,rv.length]) hst λh' hx=>?_
 have I1:Inv X pins σ H { s with heap:=h' }:=I.kept (t':=s.toks) λb o e=>hx b o (ne_of_lt (Heap.lt_size e)) e
 exact h pins _ σ H xs _ Q I1 (by simpa using rv) hw
def HQ (to ti:TE) (t:G2):TG:=λv σ H Q=>to σ H λo H1=>ti σ H1 λi H2=>t o i v H2 λH3=>Q σ H3
theorem nX {o i:Expr}{to ti:TE}{t:G2}(ho:PE X o to) (hi:PE X i ti) (hs:Hf X t)
 (ha:∀ v,assign (.Subscript o i pos) X.env v=(do
  let ov <-holding [v] (eval o X.env);let iv <-holding [v,ov] (eval i X.env)
  standAt pos
  holding [v,ov,iv] (setItem ov iv v)
  release [v,ov,iv] []):=by intro _;rfl):PG X (.Subscript o i pos) (HQ to ti t):=by
 intro pins s σ H v u Q I r h;rw[ha];refine wpAny_bind (wpAny_holding (thn (ho pins s σ H _ I h) λov s1 ⟨x,H1,I1,r1,q1⟩=>?_));refine wpAny_bind (wpAny_holding (thn (hi pins s1 σ H1 _ I1 q1) λiv s2 ⟨y,H2,I2,r2,q2⟩=>?_));refine wpAny_bind (wpAny_standAt (wpAny_bind (wpAny_holding (thn (hs pins s2 σ H2 x y v ov iv u _ I2 r1 r2 r q2) λ_ s3 ⟨H3,I3,q3⟩=>?_))));exact wpAny_release ⟨σ,H3,I3,q3⟩
def GV (te:TE) (g:TG):TS:=λD σ H=>te σ H λx H1=>g x σ H1 D.nx
theorem iI {tg e:Expr}{te:TE}{g:TG}(he:PE X e te) (hg:PG X tg g) (hs:swapsWithSole [tg] e pos.line X.env=pure false:=by rfl) (hw:swappedStores [tg] e X.env=pure none:=by rfl)
 (h1:(assignEach [tg] X.env).map (·.2)=[assign tg X.env]:=by rfl):PS X (.Assign [tg] e pos) (GV te g):=by
 intro pins s σ H D I h;refine wpAny_Assign_stores (thn (he pins s σ H _ I h) λv s1 ⟨x,H1,I1,r1,q1⟩=>?_) hs hw;rw[h1];exact thn (hg pins s1 σ H1 x v _ I1 r1 q1) λ_ s2 q=>q
theorem aK {i:Nat}{x:Str}{e:Expr}{te:TE}{pos':Pos}(hN:X.N.Nodup) (hi:X.N[i]?=some x) (hx:Loc X.env.scope x) (he:PE X e te) (hs:swapsWith e (some (.Name x pos')) pos.line X.env=pure false:=by rfl) (hf:X.fn x=true\/X.env.scope.names.lookup x=some .local:=by first|exact .inl rfl|exact .inr rfl|assumption) :
 PS X (.Assign [.Name x pos'] e pos) (GV te (jg i)):=by
 intro pins s σ H D I h;refine wpAny_Assign_Name (thn (he pins s σ H _ I h) λv s1 ⟨y,H1,I1,r1,q1⟩=>?_) hs;exact wn I1 hN hi hx r1 (λs2 I2=>⟨_,H1,I2,q1⟩) hf
end
section
variable {X:Cx}{pos:Pos}
def EL (c:TT) (tb:TS):TS:=λD σ H=>∃ W:Nat->St->Hp->Prop,(∃ m,W m σ H)/\∀ m σ H,W m σ H ->
 c σ H λb H1=>if b=true then ∃ N:St->Hp->Prop,(∀ σ' H',N σ' H'->∃ m',m' < m/\W m' σ' H')/\tb { D with nx:=N,ct:=N,bk:=D.nx } σ H1 else D.nx σ H1
theorem vJ {c:Expr}{body:List Stmt}{tc:TT}{tb:TS}(hp:PassesOwn (model X.prog X.w) X.A X.env X.xe) (hc:PT X c tc) (hb:PSs X body tb):PS X (.While c body [] pos) (EL tc tb):=by
 intro pins s σ H D I h;obtain⟨W,⟨m0,w0⟩,turn⟩:=h;refine wpAny_While (codeAny_whileLoop (λn s'=>∃ σ' H',Inv X pins σ' H' s'/\W n σ' H') ?_ m0 ⟨σ,H,I,w0⟩);rintro n s1 ⟨σ1,H1,I1,w1⟩;refine wpAny_passesOwn hp (thn (hc pins s1 σ1 H1 _ I1 (turn n σ1 H1 w1)) λb s2 ⟨H2,I2,q2⟩=>?_);cases b with
|true =>
  obtain⟨N,hN,q2⟩:=q2;rw[if_pos rfl];refine wpAny_passesOwn hp (thn (hb pins s2 σ1 H2 _ I2 q2) λf s3 q3=>?_);cases f with
 |next =>
   obtain⟨σ3,H3,I3,n3⟩:=q3;obtain⟨m',hm,w3⟩:=hN σ3 H3 n3;exact⟨m',hm,σ3,H3,I3,w3⟩
 |cont =>
   obtain⟨σ3,H3,I3,n3⟩:=q3;obtain⟨m',hm,w3⟩:=hN σ3 H3 n3;exact⟨m',hm,σ3,H3,I3,w3⟩
 |brk=>exact q3
 |ret v=>exact q3
|false =>
  rw[if_neg Bool.false_ne_true];exact wpAny_execs_nil ⟨σ1,H2,I2,q2⟩
end
structure It where
 go:Nat->Hp->Prop
 yld:Nat->Hp->V->Hp->Prop
 stop:Nat->Hp->Prop
def x8 (X:Cx) (pins:List (Addr × Obj)) (H:Hp) (b:Addr):Prop :=
 H b=none/\b≠X.env.locals/\b ∉ X.fs/\(b∈X.ex\/X.s₀.heap.objs.size <= b)/\(∀ x c,X.env.cells.lookup x=some c->c≠b)/\∀ p∈X.pn++pins,p.1≠b
theorem Inv.fpOk {X:Cx}{pins:List (Addr × Obj)}{σ:St}{H H':Hp}{s:Shared}{b:Addr}(I:Inv X pins σ H s) (hb:s.heap.objs.size <= b) (hn:H' b=none):x8 X pins H' b:=by
 refine⟨hn,ne_of_gt (Nat.lt_of_lt_of_le I.lt hb),I.nofs hb,.inr (Nat.le_trans I.sz hb),λx c e z=>?_,λp hp z=>?_⟩
 . obtain⟨v,q⟩:=I.cell x c e;exact absurd (Nat.lt_of_lt_of_le q.lt (by rw[z];exact hb)) (Nat.lt_irrefl _)
 . exact absurd (Nat.lt_of_lt_of_le (Heap.lt_size (I.pin p hp).1) (by rw[z];exact hb)) (Nat.lt_irrefl _)
structure Turn (P:Program) (w:World) (K:PySem.W.Frag) (tg:Expr) (J:It) (fp:List Addr) (it:Addr) (tn:Nat->Heap->Prop):Prop where
 mem:it∈fp
 obj:∀ i h,tn i h->∀ b∈fp,∃ o,h.get? b=some o/\∀ v,o.data≠.cell v
 keep:∀ i h h',tn i h->(∀ b∈fp,∀ o,h.get? b=some o->h'.get? b=some o)->tn i h'
 item:∀ (X:Cx),X.prog=P->X.w=w->X.K=K->X.calm=true->∀ (i:Nat) (pins:List (Addr × Obj)) (s:Shared) (σ:St) (H:Hp) (E:Value->Shared->Prop),Inv X pins σ H s->(∀ b∈fp,x8 X pins H b)->tn i s.heap->J.go i H ->
  wpAny (model P w) X.A (pyNext (.ref it)) (λr s1=>∃ u,r=some u /\
   wpAny (model P w) X.A (letOwnedTupleGo tg (.ref it) u) (λ_ s2=>∃ x H',Inv X pins σ H' s2/\bR x u/\J.yld i H x H'/\tn (i+1) s2.heap/\∀ b∈fp,H' b=none) E s1) E s
 done:∀ (X:Cx),X.prog=P->X.w=w->X.K=K->X.calm=true->∀ (i:Nat) (pins:List (Addr × Obj)) (s:Shared) (σ:St) (H:Hp) (E:Value->Shared->Prop),Inv X pins σ H s->(∀ b∈fp,x8 X pins H b)->tn i s.heap->J.stop i H ->
  wpAny (model P w) X.A (pyNext (.ref it)) (λr s1=>r=none/\Inv X pins σ H s1) E s
 self:∀ (A:Around) (i:Nat) (s:Shared) (Q:Value->Shared->Prop) (E:Value->Shared->Prop),tn i s.heap->Q (.ref it) s->wpAny (model P w) A (pyIter (.ref it)) Q E s
abbrev TI:=St->Hp->(It->Hp->Prop)->Prop
def PIE (X:Cx) (pins:List (Addr × Obj)) (σ:St) (tg:Expr) (R:It->Hp->Prop) (itv:Value) (s2:Shared):Prop :=
 ∃ (it:Addr) (fp:List Addr) (tn:Nat->Heap->Prop) (J:It) (H':Hp),itv=.ref it/\Inv X pins σ H' s2/\Turn X.prog X.w X.K tg J fp it tn/\tn 0 s2.heap/\(∀ b∈fp,x8 X pins H' b)/\R J H'
def PI (X:Cx) (tg iter:Expr) (wi:TI):Prop :=
 ∀ (pins:List (Addr × Obj)) (s:Shared) (σ:St) (H:Hp) (R:It->Hp->Prop),Inv X pins σ H s->wi σ H R ->
  wpAny (model X.prog X.w) X.A (eval iter X.env) (λv s1=>wpAny (model X.prog X.w) X.A (pyIter v) (PIE X pins σ tg R) X.xe s1) X.xe s
theorem xS {M:Model}{A:Around}{E:Value->Shared->Prop}{s:Shared}{tg:Expr}{it:Addr}{u:Value}{o:Obj}{n:String}{vs:Array Value}{Q:Unit->Shared->Prop}(ho:s.heap.get? it=some o) (hc:o.cls=.type n) (hd:o.data=.fields vs)
 (hn:["enumerate","zip","dict_itemiterator","dict_reverseitemiterator","odict_iterator","itertools.zip_longest","itertools.pairwise"].contains n=false) (hQ:Q () s):wpAny M A (letOwnedTupleGo tg (.ref it) u) Q E s:=by
 unfold letOwnedTupleGo;cases tg<;>first
 |exact wpAny_pure hQ
 |(cases u<;>first
  |exact wpAny_pure hQ
  |(refine wpAny_bind (wpAny_load ho ?_)
    rw[hc,hd];show wpAny M A (if (["enumerate","zip","dict_itemiterator","dict_reverseitemiterator","odict_iterator","itertools.zip_longest","itertools.pairwise"].contains n && vs[0]? == some (rawInt _))=true then _ else _) Q E s;rw[if_neg (by intro h;rw[hn,Bool.false_and]at h;cases h)];exact wpAny_pure hQ))
def Itl (K:PySem.W.Frag) (a:Addr):It :=
 ⟨λi H=>∃ xs x,SqL K H a xs/\xs[i]?=some x,λi H x H'=>H'=H/\∀ xs,SqL K H a xs->xs[i]?=some x,λi H=>∃ xs,SqL K H a xs/\xs.length <= i⟩
def Itt (K:PySem.W.Frag) (a:Addr):It :=
 ⟨λi H=>∃ xs x,SqT K H a xs/\xs[i]?=some x,λi H x H'=>H'=H/\∀ xs,SqT K H a xs->xs[i]?=some x,λi H=>∃ xs,SqT K H a xs/\xs.length <= i⟩
def Itr (lo:Int) (n:Nat):It:=⟨λi _=>i < n,λi H x H'=>H'=H/\x=.int (lo+i),λi _=>n <= i⟩
theorem yY {P:Program}{w:World}{K:PySem.W.Frag}{tg:Expr}(a it:Addr):Turn P w K tg (Itl K a) [it] it (λi h=>h.IsListIter it a i) where
 mem:=by simp
 obj:=λi h st b hb=>by
  have e:b=it:=by simpa using hb
  subst e;obtain⟨o,e,c,d⟩:=st;exact⟨o,e,λv z=>by rw[d]at z;cases z⟩
 keep:=λi h h' st k=>st.at λo e=>k it (by simp) o e
 item:=by
  intro X hP hw hK hc i pins s σ H E I hf st hg;subst hP hw hK;obtain⟨xs,x,hq,hx⟩:=hg;obtain⟨its,rv,p,hz⟩:=I.list hq;obtain⟨u,hu,ru⟩:=rv.get hx;obtain⟨f0,f1,f2,f3,f4,f5⟩:=hf it (by simp);refine wpAny_pyNext_list_item st p.isList (x:=u) (by simpa using hu) λh' st' sb=>?_
  have I1:Inv X pins σ H { s with heap:=h' }:=I.turned (t':=s.toks) (λb o hb e=>(sb.2 b hb).trans e) f0 f1 f3 f4 f5;obtain⟨o,e,c,d⟩:=id st';exact⟨u,rfl,xS (s:={ s with heap:=h' }) e c d (by decide) ⟨x,H,I1,ru,⟨rfl,λys hy=>by rw[I.list_inj hy hq];exact hx⟩,st',λb hb=>(hf b hb).1⟩⟩
 done:=by
  intro X hP hw hK hc i pins s σ H E I hf st hg;subst hP hw hK;obtain⟨xs,hq,hx⟩:=hg;obtain⟨its,rv,p,hz⟩:=I.list hq;obtain⟨f0,f1,f2,f3,f4,f5⟩:=hf it (by simp);have hl:=rv.length;exact wpAny_pyNext_list_end (I.ok.hd hc) st p.isList (by simp;omega) λh' eb=>⟨rfl,I.turned (t':=s.toks) (λb o hb e=>eb b o hb e) f0 f1 f3 f4 f5⟩
 self:=λ_ _ _ _ _ st h=>wpAny_pyIter_listiter st h
theorem xu {P:Program}{w:World}{K:PySem.W.Frag}{tg:Expr}(a it:Addr):Turn P w K tg (Itt K a) [it] it (λi h=>h.IsTupleIter it a i) where
 mem:=by simp
 obj:=λi h st b hb=>by
  have e:b=it:=by simpa using hb
  subst e;obtain⟨o,e,c,d⟩:=st;exact⟨o,e,λv z=>by rw[d]at z;cases z⟩
 keep:=λi h h' st k=>st.at λo e=>k it (by simp) o e
 item:=by
  intro X hP hw hK hc i pins s σ H E I hf st hg;subst hP hw hK;obtain⟨xs,x,hq,hx⟩:=hg;obtain⟨its,rv,p,hz⟩:=I.tuple hq;obtain⟨u,hu,ru⟩:=rv.get hx;obtain⟨f0,f1,f2,f3,f4,f5⟩:=hf it (by simp);refine wpAny_pyNext_tuple_item st (show s.heap.IsTuple a its.toArray from p) (x:=u) (by simpa using hu) λh' st' sb=>?_
  have I1:Inv X pins σ H { s with heap:=h' }:=I.turned (t':=s.toks) (λb o hb e=>(sb.2 b hb).trans e) f0 f1 f3 f4 f5;obtain⟨o,e,c,d⟩:=id st';exact⟨u,rfl,xS (s:={ s with heap:=h' }) e c d (by decide) ⟨x,H,I1,ru,⟨rfl,λys hy=>by rw[I.tuple_inj hy hq];exact hx⟩,st',λb hb=>(hf b hb).1⟩⟩
 done:=by
  intro X hP hw hK hc i pins s σ H E I hf st hg;subst hP hw hK;obtain⟨xs,hq,hx⟩:=hg;obtain⟨its,rv,p,hz⟩:=I.tuple hq;obtain⟨f0,f1,f2,f3,f4,f5⟩:=hf it (by simp);have hl:=rv.length;exact wpAny_pyNext_tuple_end (I.ok.hd hc) st (show s.heap.IsTuple a its.toArray from p) (by simp;omega) λh' eb=>⟨rfl,I.turned (t':=s.toks) (λb o hb e=>eb b o hb e) f0 f1 f3 f4 f5⟩
 self:=λ_ _ _ _ _ st h=>wpAny_pyIter_tupleiter st h
theorem wC {P:Program}{w:World}{K:PySem.W.Frag}{tg:Expr}(it:Addr) (lo:Int) (n:Nat):Turn P w K tg (Itr lo n) [it] it (λi h=>IsRangeIter h it (lo+(i:Nat) * 1) ((n:Int) - (i:Nat)) 1) where
 mem:=by simp
 obj:=λi h st b hb=>by
  have e:b=it:=by simpa using hb
  subst e;exact⟨_,st,λv z=>by
   have z':Data.fields _=Data.cell v:=z;cases z'⟩
 keep:=λi h h' st k=>k it (by simp) _ st
 item:=by
  intro X hP hw hK hc i pins s σ H E I hf st hg;subst hP hw hK;obtain⟨f0,f1,f2,f3,f4,f5⟩:=hf it (by simp);have W:=Walks.range (prog:=X.prog) (w:=X.w) (I.ok.hd hc) it lo 1 n;refine W.item i s _ _ hg st λv h' tk hv st' kk=>?_
  obtain⟨t,rfl⟩:=hv;have I1:Inv X pins σ H { s with heap:=h',toks:=tk }:=I.turned (λb o hb e=>kk b o (by simpa using hb) e) f0 f1 f3 f4 f5;refine⟨_,rfl,xS (s:={ s with heap:=h',toks:=tk }) (n:="range_iterator") st' rfl rfl (by decide) ⟨.int (lo+i),H,I1,⟨t,?_⟩,⟨rfl,rfl⟩,st',λb hb=>(hf b hb).1⟩⟩;rw[Int.mul_one]
 done:=by
  intro X hP hw hK hc i pins s σ H E I hf st hg;subst hP hw hK;obtain⟨f0,f1,f2,f3,f4,f5⟩:=hf it (by simp);exact wpAny_pyNext_range_end (I.ok.hd hc) st (by have:n <= i:=hg;omega) λh' eb=>⟨rfl,I.turned (t':=s.toks) (λb o hb e=>eb b o hb e) f0 f1 f3 f4 f5⟩
 self:=λ_ _ _ _ _ st h=>wpAny_pyIter_rangeiter st h
section
variable {X:Cx}{tg:Expr}
def Gm (K:PySem.W.Frag) (tl:TE):TI:=λσ H R=>tl σ H λx H1=>∃ a,x=.ref a/\(∃ xs,SqL K H1 a xs)/\R (Itl K a) H1
def Hr (K:PySem.W.Frag) (tl:TE):TI:=λσ H R=>tl σ H λx H1=>∃ a,x=.ref a/\(∃ xs,SqT K H1 a xs)/\R (Itt K a) H1
theorem eV {l:Expr}{tl:TE}(hl:PE X l tl):PI X tg l (Gm X.K tl):=by
 intro pins s σ H R I h;refine thn (hl pins s σ H _ I h) λv s1 ⟨x,H1,I1,r1,q1⟩=>?_
 obtain⟨a,e,⟨xs,hq⟩,q⟩:=q1;subst e;cases r1;obtain⟨its,rv,p,hz⟩:=I1.list hq;refine wpAny_pyIter_list p.isList ?_;refine⟨s1.heap.objs.size,[s1.heap.objs.size],_,_,H1,rfl,I1.kept (t':=s1.toks) λb o e=>Heap.get?_push_of_some _ e,yY a _,⟨_,Heap.get?_push_size _ rfl,rfl,rfl⟩,λb hb=>?_,q⟩;have e:b=s1.heap.objs.size:=by simpa using hb
 subst e;exact I1.fpOk (Nat.le_refl _) (I1.hok.fresh (Nat.le_refl _))
theorem EH {l:Expr}{tl:TE}(hl:PE X l tl):PI X tg l (Hr X.K tl):=by
 intro pins s σ H R I h;refine thn (hl pins s σ H _ I h) λv s1 ⟨x,H1,I1,r1,q1⟩=>?_
 obtain⟨a,e,⟨xs,hq⟩,q⟩:=q1;subst e;cases r1;obtain⟨its,rv,p,hz⟩:=I1.tuple hq;refine wpAny_pyIter_tuple (show s1.heap.IsTuple a its.toArray from p) ?_;refine⟨s1.heap.objs.size,[s1.heap.objs.size],_,_,H1,rfl,I1.kept (t':=s1.toks) λb o e=>Heap.get?_push_of_some _ e,xu a _,⟨_,Heap.get?_push_size _ rfl,rfl,rfl⟩,λb hb=>?_,q⟩;have e:b=s1.heap.objs.size:=by simpa using hb
 subst e;exact I1.fpOk (Nat.le_refl _) (I1.hok.fresh (Nat.le_refl _))
theorem vF {pins:List (Addr × Obj)}{σ:St}{H:Hp}{s:Shared}{R:It->Hp->Prop}{E:Value->Shared->Prop}{lo hi:Int}{t u v:Tok}{tk:Nat}(I:Inv X pins σ H s) (h1:-(2 ^ 62) <= lo) (h2:lo < 2 ^ 62) (h3:-(2 ^ 62) <= hi) (h4:hi < 2 ^ 62)
 (q:R (Itr lo (hi - lo).toNat) H):wpAny (model X.prog X.w) X.A (pyIter (.ref s.heap.objs.size)) (PIE X pins σ tg R) E { s with heap:=s.heap.push { cls:=.type "range",data:=.fields #[.int lo t,.int hi u,.int 1 v] },toks:=tk }:=by
 refine wpAny_pyIter_range (IsRange.new ..) (small_one h1 h2 h3 h4) ?_;have I1:Inv X pins σ H { s with heap:=s.heap.push { cls:=.type "range",data:=.fields #[.int lo t,.int hi u,.int 1 v] },toks:=tk }:=I.kept λb o e=>Heap.get?_push_of_some _ e
 refine⟨(s.heap.push { cls:=.type "range",data:=.fields #[.int lo t,.int hi u,.int 1 v] }).objs.size,[(s.heap.push { cls:=.type "range",data:=.fields #[.int lo t,.int hi u,.int 1 v] }).objs.size],_,_,H,rfl,
  I1.kept (t':=tk) λb o e=>Heap.get?_push_of_some _ e,wC _ lo (hi - lo).toNat,?_,λb hb=>?_,q⟩
 . have e1:lo+((0:Nat):Int) * 1=lo:=by simp
   have e2:(((hi - lo).toNat:Nat):Int) - ((0:Nat):Int)=Builtin.Range.rangeSize lo hi 1:=by rw[rangeSize_one];split<;>omega
   show IsRangeIter _ _ (lo+((0:Nat):Int) * 1) ((((hi - lo).toNat:Nat):Int) - ((0:Nat):Int)) 1;rw[e1,e2];exact Heap.get?_push_size _ rfl
 . have e:b=(s.heap.push { cls:=.type "range",data:=.fields #[.int lo t,.int hi u,.int 1 v] }).objs.size:=by simpa using hb
   subst e;exact I1.fpOk (Nat.le_refl _) (I1.hok.fresh (Nat.le_refl _))
def GQ (ta:TA):TI:=λσ H R=>ta σ H λvs H1=>∃ j:Int,vs=[.int j]/\-(2 ^ 62) <= j/\j < 2 ^ 62/\R (Itr 0 j.toNat) H1
def G7 (ta:TA):TI:=λσ H R=>ta σ H λvs H1=>∃ i j:Int,vs=[.int i,.int j]/\(-(2 ^ 62) <= i/\i < 2 ^ 62/\-(2 ^ 62) <= j/\j < 2 ^ 62)/\R (Itr i (j - i).toNat) H1
theorem nN {a:Expr}{ta:TA}{p pos:Pos}(hg:Gl X "range") (hm:X.mg "range"=none) (ha:PA X [a] ta) (hs:starEach [a] X.env=[(false,eval a X.env)]:=by rfl):PI X tg (.Call (.Name "range" p) [a] [] pos) (GQ ta):=by
 intro pins s σ H R I h;refine Call_ (m5 I hg hm boot_range (PyProof.Rows.callWith_type1 (thn (ha pos pins s σ H _ I h) λus s1 ⟨vs,H1,I1,r1,q1⟩=>?_) hs rfl));obtain⟨j,e,q1,q2,q⟩:=q1;subst e;cases r1 with
|cons r rr =>
  cases rr;obtain⟨t,rfl⟩:=r;exact call_range_1 (vF I1 (by omega) (by omega) q1 q2 (by simpa using q))
theorem zD {a b:Expr}{ta:TA}{p pos:Pos}(hg:Gl X "range") (hm:X.mg "range"=none) (ha:PA X [a,b] ta) (hs:starEach [a,b] X.env=[(false,eval a X.env),(false,eval b X.env)]:=by rfl) (hs2:starEach [b] X.env=[(false,eval b X.env)]:=by rfl) :
 PI X tg (.Call (.Name "range" p) [a,b] [] pos) (G7 ta):=by
 intro pins s σ H R I h;refine Call_ (m5 I hg hm boot_range (PyProof.Rows.callWith_type1 (thn (ha pos pins s σ H _ I h) λus s1 ⟨vs,H1,I1,r1,q1⟩=>?_) (by rw[hs,hs2]) (by rw[hs2];rfl)));obtain⟨i,j,e,⟨q1,q2,q3,q4⟩,q⟩:=q1;subst e;cases r1 with
|cons r rr =>
  cases rr with
 |cons r' rr =>
   cases rr;obtain⟨t,rfl⟩:=r;obtain⟨t',rfl⟩:=r';exact call_range_2 (vF I1 q1 q2 q3 q4 q)
def Hw (wi:TI) (g:TG) (tb:TS):TS:=λD σ H=>wi σ H λJ H1=>∃ W:Nat->Nat->St->Hp->Prop,(∃ m,W 0 m σ H1)/\∀ i m σ H,W i m σ H ->
 (J.stop i H/\D.nx σ H)\/(J.go i H/\∃ N:St->Hp->Prop,(∀ σ' H',N σ' H'->∃ m',m' < m/\W (i+1) m' σ' H')/\∀ x H',J.yld i H x H'->g x σ H' λσ2 H2=>tb { D with nx:=N,ct:=N,bk:=D.nx } σ2 H2)
def tI (fp:List Addr) (h:Heap):List (Addr × Obj):=fp.filterMap λb=>(h.get? b).map λo=>(b,o)
theorem jm {fp:List Addr}{h:Heap}{b:Addr}{o:Obj}(hb:b∈fp) (e:h.get? b=some o):(b,o)∈tI fp h:=mem_filterMap.mpr ⟨b,hb,by rw[e];rfl⟩
theorem zu {fp:List Addr}{h:Heap}{p:Addr × Obj}(hp:p∈tI fp h):p.1∈fp/\h.get? p.1=some p.2:=by
 obtain⟨b,hb,e⟩:=mem_filterMap.mp hp;cases q:h.get? b with
|none=>rw[q]at e;cases e
|some o =>
  rw[q]at e;have e':(b,o)=p:=Option.some.inj e;subst e';exact⟨hb,q⟩
theorem Inv.pinned {pins:List (Addr × Obj)}{σ:St}{H:Hp}{s:Shared}{fp:List Addr}(I:Inv X pins σ H s) (hf:∀ b∈fp,x8 X pins H b) (ho:∀ b∈fp,∃ o,s.heap.get? b=some o/\∀ v,o.data≠.cell v):Inv X (pins++tI fp s.heap) σ H s :=
 I.pins_of λp hp=>(mem_append.mp hp).elim (λz=>I.pin p (mem_append_right _ z)) λz=>by
  obtain⟨hb,e⟩:=zu z;obtain⟨f0,f1,f2,_⟩:=hf p.1 hb;obtain⟨o,e',d⟩:=ho p.1 hb;rw[e]at e';cases e';exact⟨e,f0,f1,f2,d⟩
theorem Inv.unpinned {pins pl:List (Addr × Obj)}{σ:St}{H:Hp}{s:Shared}(I:Inv X (pins++pl) σ H s):Inv X pins σ H s:=I.pins_of λp hp=>I.pin p (mem_append_right _ (List.mem_append_left _ hp))
theorem iJ {iter:Expr}{body:List Stmt}{wi:TI}{g:TG}{tb:TS}{pos:Pos}(hp:PassesOwn (model X.prog X.w) X.A X.env X.xe) (hc:X.calm=true) (hi:PI X tg iter wi) (hg:PG X tg g) (hb:PSs X body tb)
 (hs:∀ x,foldedSetIterable iter X.env x=pure x:=by intro _;rfl):PS X (.For tg iter body [] pos) (Hw wi g tb):=by
 intro pins s σ H D I h;refine wpAny_For (thn (hi pins s σ H _ I h) λv s1 h1=>thn h1 λitv s2 h2=>?_) hs;obtain⟨it,fp,tn,J,H2,e,I2,T,st2,f2,W,⟨m0,w0⟩,turn⟩:=h2;subst e;have stat:∀ {H':Hp},(∀ b∈fp,H' b=none)->∀ b∈fp,x8 X pins H' b:=λhn b hb=>⟨hn b hb,(f2 b hb).2⟩
 refine codeAny_forLoop_any (λn s'=>∃ i σ' H',Inv X pins σ' H' s'/\tn i s'.heap/\(∀ b∈fp,H' b=none)/\W i n σ' H') ?_ m0 ⟨0,σ,H2,I2,st2,λb hb=>(f2 b hb).1,w0⟩;rintro n s3 ⟨i,σ3,H3,I3,st3,fr3,w3⟩;rcases turn i n σ3 H3 w3 with⟨stop,qn⟩|⟨go,N,hN,step⟩
 . refine wpAny_passesOwn hp (thn (T.done X rfl rfl rfl hc i pins s3 σ3 H3 X.xe I3 (stat fr3) st3 stop) λr s4 ⟨hr,I4⟩=>?_);subst hr;exact wpAny_execs_nil ⟨σ3,H3,I4,qn⟩
 . refine wpAny_passesOwn hp (thn (T.item X rfl rfl rfl hc i pins s3 σ3 H3 X.xe I3 (stat fr3) st3 go) λr s4 ⟨u,hr,h4⟩=>?_);subst hr;refine wpAny_passesOwn hp (thn h4 λ_ s5 ⟨x,H5,I5,r5,y5,st5,fr5⟩=>?_);have I5':=I5.pinned (stat fr5) (T.obj _ _ st5);refine wpAny_passesOwn hp (thn (hg _ s5 σ3 H5 x u _ I5' r5 (step x H5 y5)) λ_ s6 ⟨σ6,H6,I6,q6⟩=>?_);refine wpAny_passesOwn hp (thn (hb _ s6 σ6 H6 _ I6 q6) λf s7 q7=>?_);have again:∀ {σ7:St} {H7:Hp},Inv X (pins++tI fp s5.heap) σ7 H7 s7->N σ7 H7->∃ m,m < n/\∃ i σ' H',Inv X pins σ' H' s7/\tn i s7.heap/\(∀ b∈fp,H' b=none)/\W i m σ' H':=λ{σ7 H7} I7 n7=>by
    obtain⟨m',hm,w7⟩:=hN σ7 H7 n7;refine⟨m',hm,i+1,σ7,H7,I7.unpinned,T.keep _ _ _ st5 λb hb o e=>(I7.pin (b,o) (mem_append_right _ (mem_append_right _ (jm hb e)))).1,λb hb=>?_,w7⟩;obtain⟨o,e,d⟩:=T.obj _ _ st5 b hb;exact(I7.pin (b,o) (mem_append_right _ (mem_append_right _ (jm hb e)))).2.1
   cases f with
  |next=>obtain⟨σ7,H7,I7,n7⟩:=q7;exact again I7 n7
  |cont=>obtain⟨σ7,H7,I7,n7⟩:=q7;exact again I7 n7
  |brk=>obtain⟨σ7,H7,I7,q7⟩:=q7;exact⟨σ7,H7,I7.unpinned,q7⟩
  |ret v=>obtain⟨x7,σ7,H7,I7,r7,q7⟩:=q7;exact⟨x7,σ7,H7,I7.unpinned,r7,q7⟩
end
theorem gf {K:PySem.W.Frag}{a:Addr}{xs:List V}{g:TG}{tb:TS}{D:Ends}{σ:St}{H:Hp}(Pv:Nat->St->Hp->Prop) (h0:Pv 0 σ H) (hl:∀ i σ H,i <= xs.length->Pv i σ H->SqL K H a xs)
 (hs:∀ i x σ H,xs[i]?=some x->Pv i σ H->g x σ H λσ2 H2=>tb { D with nx:=Pv (i+1),ct:=Pv (i+1),bk:=D.nx } σ2 H2) (hd:∀ σ H,Pv xs.length σ H->D.nx σ H) :
 ∃ W:Nat->Nat->St->Hp->Prop,(∃ m,W 0 m σ H)/\∀ i m σ H,W i m σ H ->
  ((Itl K a).stop i H/\D.nx σ H)\/((Itl K a).go i H/\∃ N:St->Hp->Prop,(∀ σ' H',N σ' H'->∃ m',m' < m/\W (i+1) m' σ' H')/\∀ x H',(Itl K a).yld i H x H'->g x σ H' λσ2 H2=>tb { D with nx:=N,ct:=N,bk:=D.nx } σ2 H2):=by
 refine⟨λi m σ H=>m=xs.length - i/\i <= xs.length/\Pv i σ H,⟨xs.length,by simp,zero_le _,h0⟩,?_⟩;rintro i m σ H ⟨rfl,hi,p⟩;have q:=hl i σ H hi p;by_cases hlt:i < xs.length
 . refine .inr ⟨⟨xs,xs[i],q,by simp[hlt]⟩,Pv (i+1),λσ' H' p'=>⟨xs.length - (i+1),by omega,rfl,hlt,p'⟩,λx H' y=>?_⟩;obtain⟨e,y⟩:=y;subst e;exact hs i x σ _ (y xs q) p
 . have e:i=xs.length:=by omega
   subst e;exact .inl ⟨⟨xs,q,Nat.le_refl _⟩,hd σ H p⟩
theorem kI {lo:Int}{n:Nat}{g:TG}{tb:TS}{D:Ends}{σ:St}{H:Hp}(Pv:Nat->St->Hp->Prop) (h0:Pv 0 σ H)
 (hs:∀ i σ H,i < n->Pv i σ H->g (.int (lo+i)) σ H λσ2 H2=>tb { D with nx:=Pv (i+1),ct:=Pv (i+1),bk:=D.nx } σ2 H2) (hd:∀ σ H,Pv n σ H->D.nx σ H) :
 ∃ W:Nat->Nat->St->Hp->Prop,(∃ m,W 0 m σ H)/\∀ i m σ H,W i m σ H ->
  ((Itr lo n).stop i H/\D.nx σ H)\/((Itr lo n).go i H/\∃ N:St->Hp->Prop,(∀ σ' H',N σ' H'->∃ m',m' < m/\W (i+1) m' σ' H')/\∀ x H',(Itr lo n).yld i H x H'->g x σ H' λσ2 H2=>tb { D with nx:=N,ct:=N,bk:=D.nx } σ2 H2):=by
 refine⟨λi m σ H=>m=n - i/\i <= n/\Pv i σ H,⟨n,by simp,zero_le _,h0⟩,?_⟩;rintro i m σ H ⟨rfl,hi,p⟩;by_cases hlt:i < n
 . refine .inr ⟨hlt,Pv (i+1),λσ' H' p'=>⟨n - (i+1),by omega,rfl,hlt,p'⟩,λx H' y=>?_⟩;obtain⟨e,y⟩:=y;subst e y;exact hs i σ _ hlt p
 . have e:i=n:=by omega
   subst e;exact .inl ⟨Nat.le_refl _,hd σ H p⟩
abbrev R2:=V->V->Hp->VK->Prop
def OpR (X:Cx) (f:Value->Value->Sem Value) (r:R2):Prop :=
 ∀ (pins:List (Addr × Obj)) (s:Shared) (σ:St) (H:Hp) (x y:V) (v u:Value) (Q:VK),Inv X pins σ H s->bR x v->bR y u->r x y H Q ->
  wpAny (model X.prog X.w) X.A (f v u) (EP X pins σ Q) X.xe s
def UnR (X:Cx) (f:Value->Sem Value) (r:V->Hp->VK->Prop):Prop :=
 ∀ (pins:List (Addr × Obj)) (s:Shared) (σ:St) (H:Hp) (x:V) (v:Value) (Q:VK),Inv X pins σ H s->bR x v->r x H Q ->
  wpAny (model X.prog X.w) X.A (f v) (EP X pins σ Q) X.xe s
def mw (X:Cx) (f:Value) (r:List V->Hp->VK->Prop):Prop :=
 ∀ (pins:List (Addr × Obj)) (s:Shared) (σ:St) (H:Hp) (xs:List V) (us:List Value) (Q:VK),Inv X pins σ H s->bC xs us->r xs H Q ->
  wpAny (model X.prog X.w) X.A (call f us) (EP X pins σ Q) X.xe s
def Hq (X:Cx) (r:V->Hp->(Bool->Hp->Prop)->Prop):Prop :=
 ∀ (pins:List (Addr × Obj)) (s:Shared) (σ:St) (H:Hp) (x:V) (v:Value) (Q:Bool->Hp->Prop),Inv X pins σ H s->bR x v->r x H Q ->
  wpAny (model X.prog X.w) X.A (truthy v) (TP X pins σ Q) X.xe s
def tOp (r:R2) (ta tb:TE):TE:=λσ H Q=>ta σ H λx H1=>tb σ H1 λy H2=>r x y H2 Q
def tUn (r:V->Hp->VK->Prop) (ta:TE):TE:=λσ H Q=>ta σ H λx H1=>r x H1 Q
def rI (C:Int->Int->Prop) (g:Int->Int->V):R2:=λx y H Q=>∃ i j,x=.int i/\y=.int j/\C i j/\Q (g i j) H
def rI0 (g:Int->Int->V):R2:=λx y H Q=>∃ i j,x=.int i/\y=.int j/\Q (g i j) H
def rU (g:Int->V):V->Hp->VK->Prop:=λx H Q=>∃ i,x=.int i/\Q (g i) H
section
variable {X:Cx}{a b c:Expr}{ta tb tc:TE}{pos:Pos}
theorem GT (ha:PE X a ta) (hb:PE X b tb) {pins:List (Addr × Obj)}{s:Shared}{σ:St}{H:Hp}{R:V->V->Hp->Prop}(I:Inv X pins σ H s)
 (h:ta σ H λx H1=>tb σ H1 λy H2=>R x y H2) {Q:Value->Shared->Prop} {f:Value->Value->Sem Value}
 (hf:∀ v u s2 x y H2,Inv X pins σ H2 s2->bR x v->bR y u->R x y H2->wpAny (model X.prog X.w) X.A (f v u) Q X.xe s2) :
 wpAny (model X.prog X.w) X.A (eval a X.env) (λv s₁=>wpAny (model X.prog X.w) X.A (eval b X.env) (λu s₂=>wpAny (model X.prog X.w) X.A (f v u) Q X.xe s₂) X.xe s₁) X.xe s:=by
 refine thn (ha pins s σ H _ I h) λv s1 ⟨x,H1,I1,r1,q1⟩=>?_
 refine thn (hb pins s1 σ H1 _ I1 q1) λu s2 ⟨y,H2,I2,r2,q2⟩=>?_
 exact hf v u s2 x y H2 I2 r1 r2 q2
theorem aN {op:Operator}{r:R2}(ho:OpR X (binaryOp op) r) (ha:PE X a ta) (hb:PE X b tb):PE X (.BinOp a op b pos) (tOp r ta tb):=by
 intro pins s σ H Q I h;exact wpAny_BinOp (GT ha hb I h λv u s2 x y H2 I2 rx ry q=>ho pins s2 σ H2 x y v u Q I2 rx ry q)
theorem Ff {op:UnaryOp}{r:V->Hp->VK->Prop}(ho:UnR X (unaryOp op) r) (ha:PE X a ta):PE X (.UnaryOp op a pos) (tUn r ta):=by
 intro pins s σ H Q I h;exact UnaryOp_ (thn (ha pins s σ H _ I h) λv s1 ⟨x,H1,I1,r1,q1⟩=>ho pins s1 σ H1 x v Q I1 r1 q1)
theorem opI {f:Value->Value->Sem Value}{C:Int->Int->Prop}{g:Int->Int->Int}
 (rule:∀ (i j:Int) (t u:Tok) (s:Shared) (Q:Value->Shared->Prop) (E:Value->Shared->Prop),C i j->Q (.int (g i j) s.toks) { s with toks:=s.toks+1 }->wpAny (model X.prog X.w) X.A (f (.int i t) (.int j u)) Q E s) :
 OpR X f (rI C λi j=>.int (g i j)):=by
 intro pins s σ H x y v u Q I rx ry h;obtain⟨i,j,rfl,rfl,hc,q⟩:=h;obtain⟨t,rfl⟩:=rx;obtain⟨t',rfl⟩:=ry;exact rule i j t t' s _ _ hc ⟨.int (g i j),H,I.tok _,⟨_,rfl⟩,q⟩
theorem Hg {f:Value->Value->Sem Value}{g:Int->Int->Int}
 (rule:∀ (i j:Int) (t u:Tok) (s:Shared) (Q:Value->Shared->Prop) (E:Value->Shared->Prop),Q (.int (g i j) s.toks) { s with toks:=s.toks+1 }->wpAny (model X.prog X.w) X.A (f (.int i t) (.int j u)) Q E s) :
 OpR X f (rI0 λi j=>.int (g i j)):=by
 intro pins s σ H x y v u Q I rx ry h;obtain⟨i,j,rfl,rfl,q⟩:=h;obtain⟨t,rfl⟩:=rx;obtain⟨t',rfl⟩:=ry;exact rule i j t t' s _ _ ⟨.int (g i j),H,I.tok _,⟨_,rfl⟩,q⟩
theorem Gx {f:Value->Value->Sem Value}{g:Int->Int->Bool}
 (rule:∀ (i j:Int) (t u:Tok) (s:Shared) (Q:Value->Shared->Prop) (E:Value->Shared->Prop),Q (.bool (g i j)) s->wpAny (model X.prog X.w) X.A (f (.int i t) (.int j u)) Q E s) :
 OpR X f (rI0 λi j=>.bl (g i j)):=by
 intro pins s σ H x y v u Q I rx ry h;obtain⟨i,j,rfl,rfl,q⟩:=h;obtain⟨t,rfl⟩:=rx;obtain⟨t',rfl⟩:=ry;exact rule i j t t' s _ _ ⟨.bl (g i j),H,I,rfl,q⟩
def HE (i j:Int):Prop:=0 <= j/\j <= 1000000/\i.natAbs < 2 ^ 64
def FM (i j:Int):Prop:=(-(2 ^ 64) < i/\i < 2 ^ 64)\/(-(2 ^ 64) < j/\j < 2 ^ 64)
theorem FM.ok {i j:Int}(h:FM i j):IntMulOk i j:=by
 rcases h with⟨h1,h2⟩|⟨h1,h2⟩
 . exact .of_left (intBits_le_64 h1 h2)
 . exact .of_right (intBits_le_64 h1 h2)
theorem o8:OpR X (binaryOp .Add) (rI0 λi j=>.int (i+j)):=Hg λ_ _ _ _ _ _ _ q=>add_int q
theorem kM:OpR X (binaryOp .Sub) (rI0 λi j=>.int (i - j)):=Hg λ_ _ _ _ _ _ _ q=>sub_int q
theorem qm:OpR X (binaryOp .Mult) (rI FM λi j=>.int (i * j)):=opI λ_ _ _ _ _ _ _ hc q=>mul_int q hc.ok
theorem bS:OpR X (binaryOp .Mod) (rI (λ_ j=>0 < j) λi j=>.int (i % j)):=opI λi j _ _ _ _ _ hc q=>by
 have h1:(0:Int) < j:=hc;exact mod_int' (by omega) (by rw[Int.fmod_eq_emod_of_nonneg i (by omega)];exact q)
theorem jz:OpR X (binaryOp .Pow) (rI HE λi j=>.int (i ^ j.toNat)):=opI λ_ _ _ _ _ _ _ hc q=>pow_int_small hc.1 hc.2.1 hc.2.2 q
theorem unI {f:Value->Sem Value}{g:Int->Int}
 (rule:∀ (i:Int) (t:Tok) (s:Shared) (Q:Value->Shared->Prop) (E:Value->Shared->Prop),Q (.int (g i) s.toks) { s with toks:=s.toks+1 }->wpAny (model X.prog X.w) X.A (f (.int i t)) Q E s) :
 UnR X f (rU λi=>.int (g i)):=by
 intro pins s σ H x v Q I rx h;obtain⟨i,rfl,q⟩:=h;obtain⟨t,rfl⟩:=rx;exact rule i t s _ _ ⟨.int (g i),H,I.tok _,⟨_,rfl⟩,q⟩
theorem C3:UnR X (unaryOp .USub) (rU λi=>.int (-i)):=unI λ_ _ _ _ _ q=>neg_int q
end
def Ha:V->V->Bool
|.non,.non=>true|.non,.int _=>true|.int _,.non=>true|.non,.bl _=>true|.bl _,.non=>true|.non,.str _=>true|.str _,.non=>true
|.int _,.int _=>true|.bl _,.bl _=>true|.str _,.str _=>true|.byt _,.byt _=>true
|.int _,.str _=>true|.str _,.int _=>true|.bl _,.str _=>true|.str _,.bl _=>true
|_,_=>false
def rEq:R2:=λx y H Q=>Ha x y=true/\Q (.bl (decide (x=y))) H
def rNe:R2:=λx y H Q=>Ha x y=true/\Q (.bl (!decide (x=y))) H
theorem xL {i j:Int}:decide (V.int i=V.int j)=(i == j):=by
 rw[Bool.eq_iff_iff];simp
theorem Cm {i j:Bool}:decide (V.bl i=V.bl j)=(i == j):=by
 rw[Bool.eq_iff_iff];simp
theorem yK {i j:Str}:decide (V.str i=V.str j)=(i == j):=by
 rw[Bool.eq_iff_iff];simp
theorem zH {i j:Array UInt8}:decide (V.byt i=V.byt j)=(i.toList == j.toList):=by
 rw[Bool.eq_iff_iff];cases i;cases j;simp
section
variable {X:Cx}{a b c:Expr}{ta tb tc:TE}{pos:Pos}
theorem bB {pins:List (Addr × Obj)}{σ:St}{H:Hp}{s:Shared}{Q:VK}{k k':Bool}(I:Inv X pins σ H s) (q:Q (.bl k) H) (e:k=k'):EP X pins σ Q (.bool k') s:=by
 subst e;exact⟨.bl k,H,I,rfl,q⟩
theorem cm:OpR X (compareOp .Eq) rEq:=by
 intro pins s σ H x y v u Q I rx ry h;obtain⟨hs,q⟩:=h;cases x with
|non =>
  cases rx;cases y with
 |non=>cases ry;exact PySem.EqNone.eq_none_none (bB I q (by simp))
 |bl j=>cases ry;exact PySem.EqNone.eq_none_bool (bB I q (by simp))
 |int j=>obtain⟨t',rfl⟩:=ry;exact PySem.EqNone.eq_none_int (bB I q (by simp))
 |str j=>obtain⟨t',rfl⟩:=ry;exact PySem.EqNone.eq_none_str (bB I q (by simp))
 |_=>exact absurd (show false=true from hs) Bool.false_ne_true
|bl i =>
  cases rx;cases y with
 |non=>cases ry;exact PySem.EqNone.eq_bool_none (bB I q (by simp))
 |bl j=>cases ry;exact eq_bool (bB I q Cm)
 |str j=>obtain⟨t',rfl⟩:=ry;exact PySem.EqMixed.eq_bool_str (bB I q (by simp))
 |_=>exact absurd (show false=true from hs) Bool.false_ne_true
|int i =>
  obtain⟨t,rfl⟩:=rx;cases y with
 |non=>cases ry;exact PySem.EqNone.eq_int_none (bB I q (by simp))
 |int j=>obtain⟨t',rfl⟩:=ry;exact eq_int (bB I q xL)
 |str j=>obtain⟨t',rfl⟩:=ry;exact PySem.EqMixed.eq_int_str (bB I q (by simp))
 |_=>exact absurd (show false=true from hs) Bool.false_ne_true
|str i =>
  obtain⟨t,rfl⟩:=rx;cases y with
 |non=>cases ry;exact PySem.EqNone.eq_str_none (bB I q (by simp))
 |bl j=>cases ry;exact PySem.EqMixed.eq_str_bool (bB I q (by simp))
 |int j=>obtain⟨t',rfl⟩:=ry;exact PySem.EqMixed.eq_str_int (bB I q (by simp))
 |str j=>obtain⟨t',rfl⟩:=ry;exact eq_str (bB I q yK)
 |_=>exact absurd (show false=true from hs) Bool.false_ne_true
|byt i =>
  obtain⟨t,rfl⟩:=rx;cases y with
 |byt j=>obtain⟨t',rfl⟩:=ry;exact eq_bytes (bB I q zH)
 |_=>exact absurd (show false=true from hs) Bool.false_ne_true
|_=>cases y<;>exact absurd (show false=true from hs) Bool.false_ne_true
theorem rQ:OpR X (compareOp .NotEq) rNe:=by
 intro pins s σ H x y v u Q I rx ry h;obtain⟨hs,q⟩:=h;cases x with
|non =>
  cases rx;cases y with
 |non=>cases ry;exact PySem.EqNone.ne_none_none (bB I q (by simp))
 |bl j=>cases ry;exact PySem.EqNone.ne_none_bool (bB I q (by simp))
 |int j=>obtain⟨t',rfl⟩:=ry;exact PySem.EqNone.ne_none_int (bB I q (by simp))
 |str j=>obtain⟨t',rfl⟩:=ry;exact PySem.EqNone.ne_none_str (bB I q (by simp))
 |_=>exact absurd (show false=true from hs) Bool.false_ne_true
|bl i =>
  cases rx;cases y with
 |non=>cases ry;exact PySem.EqNone.ne_bool_none (bB I q (by simp))
 |bl j=>cases ry;exact ne_bool (bB I q (congrArg not Cm))
 |str j=>obtain⟨t',rfl⟩:=ry;exact PySem.EqMixed.ne_bool_str (bB I q (by simp))
 |_=>exact absurd (show false=true from hs) Bool.false_ne_true
|int i =>
  obtain⟨t,rfl⟩:=rx;cases y with
 |non=>cases ry;exact PySem.EqNone.ne_int_none (bB I q (by simp))
 |int j=>obtain⟨t',rfl⟩:=ry;exact ne_int (bB I q (congrArg not xL))
 |str j=>obtain⟨t',rfl⟩:=ry;exact PySem.EqMixed.ne_int_str (bB I q (by simp))
 |_=>exact absurd (show false=true from hs) Bool.false_ne_true
|str i =>
  obtain⟨t,rfl⟩:=rx;cases y with
 |non=>cases ry;exact PySem.EqNone.ne_str_none (bB I q (by simp))
 |bl j=>cases ry;exact PySem.EqMixed.ne_str_bool (bB I q (by simp))
 |int j=>obtain⟨t',rfl⟩:=ry;exact PySem.EqMixed.ne_str_int (bB I q (by simp))
 |str j=>obtain⟨t',rfl⟩:=ry;exact ne_str (bB I q (congrArg not yK))
 |_=>exact absurd (show false=true from hs) Bool.false_ne_true
|byt i =>
  obtain⟨t,rfl⟩:=rx;cases y with
 |byt j=>obtain⟨t',rfl⟩:=ry;exact ne_bytes (bB I q (congrArg not zH))
 |_=>exact absurd (show false=true from hs) Bool.false_ne_true
|_=>cases y<;>exact absurd (show false=true from hs) Bool.false_ne_true
theorem Gc:OpR X (compareOp .Lt) (rI0 λi j=>.bl (decide (i < j))):=Gx λ_ _ _ _ _ _ _ q=>lt_int q
theorem FH:OpR X (compareOp .LtE) (rI0 λi j=>.bl (decide (i <= j))):=Gx λ_ _ _ _ _ _ _ q=>le_int q
theorem BJ:OpR X (compareOp .Gt) (rI0 λi j=>.bl (decide (j < i))):=Gx λ_ _ _ _ _ _ _ q=>gt_int q
theorem sV:OpR X (compareOp .Is) (λx y H Q=>y=.non/\Q (.bl (decide (x=.non))) H):=by
 intro pins s σ H x y v u Q I rx ry h;obtain⟨rfl,q⟩:=h;cases ry;refine is_none_gen (bB I q ?_);cases x<;>first
 |(cases rx;rfl)
 |(obtain⟨t,rfl⟩:=rx;rfl)
theorem lH:OpR X (compareOp .IsNot) (λx y H Q=>y=.non/\Q (.bl (!decide (x=.non))) H):=by
 intro pins s σ H x y v u Q I rx ry h;obtain⟨rfl,q⟩:=h;cases ry;refine isnot_none_gen (bB I q ?_);cases x<;>first
 |(cases rx;rfl)
 |(obtain⟨t,rfl⟩:=rx;rfl)
theorem av (b:Expr) {op:CmpOp}(h:op≠.In:=by decide) (h2:op≠.NotIn:=by decide):behindInMarks op b=false:=by
 have e1:(op == CmpOp.In)=false:=by cases op<;>first|rfl|exact absurd rfl h
 have e2:(op == CmpOp.NotIn)=false:=by cases op<;>first|rfl|exact absurd rfl h2
 cases b<;>simp[behindInMarks,e1,e2]
theorem ci {op:CmpOp}{r:R2}(ho:OpR X (compareOp op) r) (ha:PE X a ta) (hb:PE X b tb) (hm:behindInMarks op b=false):PE X (.Compare a [op] [b] pos) (tOp r ta tb):=by
 intro pins s σ H Q I h;exact wpAny_Compare1 (GT ha hb I h λv u s2 x y H2 I2 rx ry q=>ho pins s2 σ H2 x y v u Q I2 rx ry q) hm
def yM (t:TE):TT:=λσ H Q=>t σ H λx H'=>∃ k,x=.bl k/\Q k H'
theorem ao {op:CmpOp}{r:R2}(ho:OpR X (compareOp op) r) (ha:PE X a ta) (hb:PE X b tb) (hm:behindInMarks op b=false):PT X (.Compare a [op] [b] pos) (yM (tOp r ta tb)):=by
 intro pins s σ H Q I h;refine wpAny_isTrue_Compare1 (thn (ha pins s σ H _ I h) λv s1 ⟨x,H1,I1,r1,q1⟩=>thn (hb pins s1 σ H1 _ I1 q1) λu s2 ⟨y,H2,I2,r2,q2⟩ =>
  thn (ho pins s2 σ H2 x y v u _ I2 r1 r2 q2) λc s3 ⟨z,H3,I3,r3,k,e,q3⟩=>?_) hm
 subst e;cases r3;exact wpAny_truthy_bool ⟨H3,I3,q3⟩
def Ew (r r':R2) (ta tb tc:TE):TE:=λσ H Q=>ta σ H λx H1=>tb σ H1 λy H2=>r x y H2 λz H3=>∃ k,z=.bl k /\
 (if k=true then tc σ H3 λw' H4=>r' y w' H4 Q else Q (.bl false) H3)
theorem Bx {op op':CmpOp}{r r':R2}(ho:OpR X (compareOp op) r) (ho':OpR X (compareOp op') r') (ha:PE X a ta) (hb:PE X b tb) (hc:PE X c tc)
 (hm:lastMarks [op,op'] [b,c]=false:=by with_unfolding_all rfl):PE X (.Compare a [op,op'] [b,c] pos) (Ew r r' ta tb tc):=by
 intro pins s σ H Q I h;refine Compare_chain (thn (ha pins s σ H _ I h) λv s1 ⟨x,H1,I1,r1,q1⟩=>chain_link (thn (hb pins s1 σ H1 _ I1 q1) λu s2 ⟨y,H2,I2,r2,q2⟩ =>
  thn (ho pins s2 σ H2 x y v u _ I2 r1 r2 q2) λd s3 ⟨z,H3,I3,r3,k,e,q3⟩=>?_)) hm
 subst e;cases r3;refine wpAny_truthy_bool ?_;cases k with
|false=>exact ite_ff ⟨.bl false,H3,I3,rfl,q3⟩
|true=>exact ite_tt (chain_last (thn (hc pins s3 σ H3 _ I3 q3) λw' s4 ⟨z',H4,I4,r4,q4⟩=>ho' pins s4 σ H4 y z' u w' Q I4 r2 r4 q4))
def He (K:PySem.W.Frag) (x:V) (H:Hp) (k:Bool):Prop :=
 match x with
|.non=>k=false
|.bl b=>k=b
|.int i=>k=(i != 0)
|.str y=>y.length <= sizeLine/\k=((y.length:Int) != 0)
|.byt y=>y.size <= sizeLine/\k=((y.size:Int) != 0)
|.ref p=>(∃ xs,SqL K H p xs/\k=!xs.isEmpty)\/(∃ xs,SqT K H p xs/\k=!xs.isEmpty)\/∃ kvs,H p=some (.dK kvs)/\k=!kvs.isEmpty
|_=>False
theorem wJ {κ:Type}{kvs:List (κ × V)}{vs:List (κ × Value)}(r:KV kvs vs):(!vs.isEmpty)=!kvs.isEmpty:=by
 cases r<;>rfl
theorem qk {xs:List V}{its:List Value}(r:bC xs its):(!its.toArray.isEmpty)=!xs.isEmpty:=by
 cases r<;>simp
theorem sC:(sizeLine:Nat) < 2 ^ 63:=by rw[sizeLine_eq];decide
theorem Em:Hq X (λx H Q=>∃ k,He X.K x H k/\Q k H):=by
 intro pins s σ H x v Q I rx h;obtain⟨k,e,q⟩:=h;have hl:=sC;have hs:sizeLine=16777216:=sizeLine_eq;cases x with
|non =>
  cases rx;have e':k=false:=e;subst e';exact truthy_none ⟨H,I,q⟩
|bl b =>
  cases rx;have e':k=b:=e;subst e';exact wpAny_truthy_bool ⟨H,I,q⟩
|int i =>
  obtain⟨t,rfl⟩:=rx;have e':k=(i != 0):=e;subst e';exact PySem.P.truthy_int ⟨H,I,q⟩
|str y =>
  obtain⟨t,rfl⟩:=rx;obtain⟨hy,e'⟩:y.length <= sizeLine/\k=((y.length:Int) != 0):=e;subst e';exact PySem.P.truthy_str (by omega) ⟨H,I.tok _,q⟩
|byt y =>
  obtain⟨t,rfl⟩:=rx;obtain⟨hy,e'⟩:y.size <= sizeLine/\k=((y.size:Int) != 0):=e;subst e';exact truthy_bytes (by omega) ⟨H,I.tok _,q⟩
|ref p =>
  cases rx;have e':(∃ xs,SqL X.K H p xs/\k=!xs.isEmpty)\/(∃ xs,SqT X.K H p xs/\k=!xs.isEmpty)\/∃ kvs,H p=some (.dK kvs)/\k=!kvs.isEmpty:=e;rcases e' with⟨xs,hx,e'⟩|⟨xs,hx,e'⟩|⟨kvs,hx,e'⟩
  . subst e';obtain⟨its,r,pl,hz⟩:=I.list hx;have hlen:=r.length;exact wpAny_truthy_list pl.isList (by simp only[size_toArray];omega) ⟨H,I.tok _,by rw[qk r];exact q⟩
  . subst e';obtain⟨its,r,pl,hz⟩:=I.tuple hx;have hlen:=r.length;exact truthy_tuple pl (by simp only[size_toArray];omega) ⟨H,I.tok _,by rw[qk r];exact q⟩
  . subst e';obtain⟨hz,hS,vs,r,m⟩:kvs.length <= sizeLine/\(p == sysModules)=false/\∃ vs,KV kvs vs/\s.heap.DictOf (bv X.prog X.w) p vs:=I.hok p _ hx;have hlen:kvs.length=vs.length:=Paired.length r;exact wpAny_truthy_dict hS m (by omega) ⟨H,I.tok _,by rw[wJ r];exact q⟩
|_=>exact(show False from e).elim
theorem rS (ha:PE X a ta) (he:∀ whole,isTrue a X.env whole=(do let v <-whole;standAt a.pos;holding [v] (truthy v))) :
 PT X a (λσ H Q=>ta σ H λx H'=>∃ k,He X.K x H' k/\Q k H'):=by
 intro pins s σ H Q I h;exact isTrue_plain (thn (ha pins s σ H _ I h) λv s1 ⟨x,H1,I1,r1,q1⟩=>Em pins s1 σ H1 x v Q I1 r1 q1) (he _)
theorem mv {x:V}{us:List Value}(r:bC [x] us):∃ u,us=[u]/\bR x u:=by
 cases r with
|cons r1 r2=>cases r2;exact⟨_,rfl,r1⟩
theorem Fx {x y:V}{us:List Value}(r:bC [x,y] us):∃ u w',us=[u,w']/\bR x u/\bR y w':=by
 cases r with
|cons r1 r2 =>
  cases r2 with
 |cons r3 r4=>cases r4;exact⟨_,_,rfl,r1,r3⟩
theorem km:mw X (.type "int") (λxs H Q=>(∃ i,xs=[.int i]/\Q (.int i) H)\/∃ k,xs=[.bl k]/\Q (.int (if k then 1 else 0)) H):=by
 intro pins s σ H xs us Q I r h;rcases h with⟨i,rfl,q⟩|⟨k,rfl,q⟩
 . obtain⟨u,rfl,t,rfl⟩:=mv r;exact call_int_int ⟨.int i,H,I,⟨_,rfl⟩,q⟩
 . obtain⟨u,rfl,r1⟩:=mv r;cases r1;exact call_int_bool ⟨.int (if k then 1 else 0),H,I.tok _,⟨_,rfl⟩,q⟩
end
structure ObjM (h:Heap) (x dx C:Addr) (mA:Str->Option Value):Prop where
 obj:h.get? x=some (instObj C dx)
 ns:h.Ns1 dx mA
 ne:dx≠x
theorem yX {h:Heap}{dx:Addr}{mA:Str->Option Value}(n:h.Ns1 dx mA):∃ od,h.get? dx=some od/\∀ name,lookIn name od=some (mA name):=by
 obtain⟨o,es,ep,ho,hd,hk,_,hm⟩:=n;refine⟨o,ho,λname=>?_⟩;have e:=hm name;unfold nsFind findBy at e;rw[<-Array.find?_toList]at e;unfold lookIn;rw[hd];dsimp only;split
 . rename_i y q;rw[q]at e;exact congrArg some e
 . rename_i q;rw[q]at e;have a:es.toList.any (·.refKey)=false:=by
    rw[List.any_eq_false];intro y hy;obtain⟨z,t,hkey⟩:=hk y (Array.mem_toList_iff.mp hy);simp[DictEntry.refKey,hkey]
   have a':¬ es.toList.any (·.refKey)=true:=by rw[a];exact Bool.false_ne_true
   rw[if_neg a'];exact congrArg some e
theorem ObjM.look {h:Heap}{x dx C:Addr}{mA:Str->Option Value}(I:ObjM h x dx C mA):∃ od,InstAt h x (instObj C dx) C (some od)/\∀ name,lookIn name od=some (mA name) :=
 let ⟨od,ho,hl⟩:=yX I.ns
 ⟨od,⟨I.obj,rfl,rfl,ho⟩,hl⟩
section
variable {prog:Program}{w:World}{A:Around}{E:Value->Shared->Prop}{s:Shared}{K:PySem.W.Frag}{x dx C f:Addr}{mA:Str->Option Value}{name:Str}{v:Value}
theorem D3 {expr:Bool}{Q:Value->Shared->Prop}(X:K.In s.heap) (I:ObjM s.heap x dx C mA) (hg:plainGet K C name=true) (hh:hasDictIn K C=true)
 (ha:findIn K (.ref C) name=some none) (hv:mA name=some v) (hv':handedIn v=true) (h:Q v { s with toks:=s.toks+1 }) :
 wpAny (model prog w) A (getAttr (.ref x) name expr) Q E s:=by
 obtain⟨od,J,hl⟩:=I.look;exact get_value X J (plainGet_of hg).1 (findObj_own hh ha rfl (by rw[hl,hv])) hv' h
theorem Bf {pl:Sem Bool}{Q:Value × List Value->Shared->Prop}(X:K.In s.heap) (I:ObjM s.heap x dx C mA) (hg:plainGet K C name=true)
 (hf:findIn K (.ref C) name=some (some (.ref f))) (ht:isFn K (.ref f)=true) (hv:mA name=none) (h:Q (.ref f,[.ref x]) s) :
 wpAny (model prog w) A (getMethod (.ref x) name pl) Q E s:=by
 obtain⟨od,J,hl⟩:=I.look;exact method_fn X J (plainGet_of hg).1 (plainGet_of hg).2 hf (beq_iff_eq.mp ht) (by show (lookIn name od).map (·.isSome)=some false;rw[hl,hv];rfl) h
theorem DR {ns:List Str}{Q:Unit->Shared->Prop}(X:K.In s.heap) (I:ObjM s.heap x dx C mA)
 (hs:findIn K (.ref C) "__setattr__"=some (some (.builtin "object.__setattr__"))) (hp:plainOver K C=true) (ht:takerIn K C name=some none) (hh:hasDictIn K C=true)
 (hw:PySem.Within mA ns) (hsz:ns.length <= sizeLine)
 (h:∀ h',ObjM h' x dx C (λy=>if y=name then some v else mA y)->Heap.SameBut dx s.heap h'->Q () { s with heap:=h',toks:=s.toks+2 }) :
 wpAny (model prog w) A (setAttr (.ref x) name v) Q E s:=by
 obtain⟨od,J,hl⟩:=I.look;refine set_plain X J hs (osa_open (s:={ s with toks:=s.toks+1 }) (r:=none) X J hp ht λb=>?_);obtain⟨cd,hc,hd'⟩:=any_some hh;have hx:s.heap.get? x=some ⟨.ref C,some dx,.plain,#[]⟩:=I.obj;refine wpAny_bind (wpAny_pure (wpAny_bind (wpAny_bind (wpAny_loadPart hx (wpAny_bind (Looks.here (s:={ s with toks:=s.toks+1 }) (looks_clsIn X hc) ?_))))));rw[hd'];refine wpAny_pure (a:=some dx) (wpAny_bind (wpAny_pure (wpAny_bind ?_)));refine wpAny_nsSet1 (s:={ s with toks:=s.toks+1 }) I.ns λh' hn2 hs2=>?_
 obtain⟨oD,esD,epD,hoD,hdD,hcD⟩:=hn2.count (PySem.Within.cons name v hw);refine wpAny_bind (wpAny_lookBehind hoD (by rw[hdD];exact pastItsLine_dict (Nat.le_trans hcD (by rw[length_cons];omega))) ?_);exact wpAny_pure (h _ ⟨(hs2.2 _ (Ne.symm I.ne)).trans I.obj,hn2,I.ne⟩ hs2)
theorem AF {R:Result->Shared->Prop}{vs:List Value}{kw:List (Str × Value)}(X:K.In s.heap) (hm:makesIn K C=true)
 (hi:findIn K (.ref C) "__init__"=some (some (.ref f))) (hf:typeIn K (.ref f)=some (.type "function"))
 (h:codeAny (model prog w) (A.under (.builtin "type.__call__" ⟨.ref C :: vs,kw⟩)) (.call (.ref f) ⟨.ref (s.heap.objs.size+1) :: vs,kw⟩) (InitBack (s.heap.objs.size+1) R)
  { s with heap:=(s.heap.push emptyDict).push (instObj C s.heap.objs.size) }) :
 codeAny (model prog w) A (.call (.ref C) ⟨vs,kw⟩) R s:=by
 obtain⟨hh,g,d,t,os⟩:=s;exact make_core (makes_of X hm) (looks_findIn X hi) (λself=>bind_fn X self hf) (.inl rfl) h
end
def bO (f:Str) (v:V):List (Str × V)->List (Str × V)
|[]=>[(f,v)]
|(g,x) :: r=>if g=f then (g,v) :: r else (g,x) :: bO f v r
theorem a8 (f g:Str) (v:V):∀ fs:List (Str × V),(bO f v fs).lookup g=if g=f then some v else fs.lookup g
|[]=>by
  show List.lookup g [(f,v)]=_;by_cases h:g=f
  . have hb:(g == f)=true:=beq_iff_eq.mpr h;simp only[List.lookup,hb,if_pos h]
  . have hb:(g == f)=false:=beq_eq_false_iff_ne.mpr h;simp only[List.lookup,hb,if_neg h]
|(k,x) :: r=>by
  have ih:=a8 f g v r;rw[show bO f v ((k,x) :: r)=(if k=f then (k,v) :: r else (k,x) :: bO f v r) from rfl];by_cases hk:k=f
  . rw[if_pos hk];by_cases h:g=k
    . have hb:(g == k)=true:=beq_iff_eq.mpr h;simp only[List.lookup,hb,if_pos (h.trans hk)]
    . have hb:(g == k)=false:=beq_eq_false_iff_ne.mpr h;simp only[List.lookup,hb,if_neg (λe:g=f=>h (e.trans hk.symm))]
  . rw[if_neg hk];by_cases h:g=k
    . have hb:(g == k)=true:=beq_iff_eq.mpr h;simp only[List.lookup,hb,if_neg (λe:g=f=>hk (h.symm.trans e))]
    . have hb:(g == k)=false:=beq_eq_false_iff_ne.mpr h;simp only[List.lookup,hb];exact ih
theorem n8 (f:Str) (v:V):∀ fs:List (Str × V),f∈(bO f v fs).map (·.1)/\∀ g,g∈fs.map (·.1)->g∈(bO f v fs).map (·.1)
|[]=>⟨by simp[bO],λg h=>by simp at h⟩
|(k,x) :: r=>by
  obtain⟨i1,i2⟩:=n8 f v r;rw[show bO f v ((k,x) :: r)=(if k=f then (k,v) :: r else (k,x) :: bO f v r) from rfl];by_cases hk:k=f
  . rw[if_pos hk];subst hk;exact⟨by simp,λg h=>by simpa using h⟩
  . rw[if_neg hk];refine⟨?_,λg h=>?_⟩
    . rw[map_cons];exact mem_cons_of_mem _ i1
    . rw[map_cons]at h |-;rcases mem_cons.mp h with e|e
      . exact mem_cons.mpr (.inl e)
      . exact mem_cons_of_mem _ (i2 g e)
theorem o9 (f:Str) (v:V):∀ fs:List (Str × V),(bO f v fs).length <= fs.length+1
|[]=>by simp[bO]
|(k,x) :: r=>by
  have ih:=o9 f v r;rw[show bO f v ((k,x) :: r)=(if k=f then (k,v) :: r else (k,x) :: bO f v r) from rfl];by_cases hk:k=f
  . rw[if_pos hk,length_cons,length_cons];omega
  . rw[if_neg hk,length_cons,length_cons];omega
theorem rX.some_of {v:V}{o:Option Value}(r:rX (some v) o):∃ u,o=some u/\bR v u:=by
 cases o with
|none=>exact(show False from r).elim
|some u=>exact⟨u,rfl,r⟩
theorem rX.none_of {o:Option Value}(r:rX none o):o=none:=by
 cases o with
|none=>rfl
|some u=>exact(show False from r).elim
theorem za {v:V}{u:Value}(r:bR v u):handedIn u=true:=by
 cases v with
|non=>cases (show u=Value.none from r);rfl
|bl b=>cases (show u=Value.bool b from r);rfl
|int i=>obtain⟨t,e⟩:=(show ∃ t,u=Value.int i t from r);cases e;rfl
|str x=>obtain⟨t,e⟩:=(show ∃ t,u=Value.str x t from r);cases e;rfl
|byt b=>obtain⟨t,e⟩:=(show ∃ t,u=Value.bytes b t from r);cases e;rfl
|flt b=>obtain⟨t,e⟩:=(show ∃ t,u=Value.float b t from r);cases e;rfl
|ref a=>cases (show u=Value.ref a from r);rfl
|ty n=>cases (show u=Value.type n from r);rfl
section
variable {P:Program}{w:World}{H H':Hp}{h h':Heap}{a C dx:Addr}{fs fs':List (Str × V)}
theorem rT (hok:HOk P w H h) (e:H a=some (.ins C dx fs)):∃ mA,ObjM h a dx C mA/\(∀ f,rX (fs.lookup f) (mA f))/\PySem.Within mA (fs.map (·.1))/\fs.length <= 1000/\H dx=some (.own a):=by
 obtain⟨d,z,ne,ob,mA,n,r,q⟩:=(show cT P w H h a (.ins C dx fs) from hok a _ e)
 exact⟨mA,⟨ob,n,ne⟩,r,q,z,d⟩
end
structure Cls (K:PySem.W.Frag) (C:Addr):Prop where
 pg:plainGet K C Str.empty=true
 hd:hasDictIn K C=true
 po:plainOver K C=true
 sa:findIn K (.ref C) "__setattr__"=some (some (.builtin "object.__setattr__"))
theorem Cls.get {K:PySem.W.Frag}{C:Addr}(c:Cls K C) (f:Str):plainGet K C f=true:=c.pg
def be (K:PySem.W.Frag) (C:Addr) (f:Str):Prop:=findIn K (.ref C) f=some none
theorem be.taker {K:PySem.W.Frag}{C:Addr}{f:Str}(n:be K C f):takerIn K C f=some none:=by
 unfold takerIn;rw[show findIn K (.ref C) f=some none from n];rfl
structure Meth (K:PySem.W.Frag) (C:Addr) (m:Str) (f:Addr):Prop where
 at_:findIn K (.ref C) m=some (some (.ref f))
 fn:isFn K (.ref f)=true
 kp:keepIn K (.ref f)=true
section
variable {X:Cx}{pins:List (Addr × Obj)}{σ:St}{H:Hp}{s:Shared}{a C dx:Addr}{fs:List (Str × V)}{f:Str}{v:V}{A:Around}{E:Value->Shared->Prop}
theorem wY {b:Bool}{Q:Value->Shared->Prop}(I:Inv X pins σ H s) (e:H a=some (.ins C dx fs)) (c:Cls X.K C) (n:be X.K C f) (l:fs.lookup f=some v)
 (h:∀ u s',Inv X pins σ H s'->bR v u->Q u s'):wpAny (model X.prog X.w) A (getAttr (.ref a) f b) Q E s:=by
 obtain⟨mA,O,r,_,_,_⟩:=rT I.hok e;obtain⟨u,hu,ru⟩:=rX.some_of (v:=v) (o:=mA f) (by rw[<-l];exact r f);exact D3 I.kIn O (c.get f) c.hd n hu (za ru) (h u _ (I.tok _) ru)
theorem lS {m:Str}{g:Addr}{pl:Sem Bool}{Q:Value × List Value->Shared->Prop}(I:Inv X pins σ H s) (e:H a=some (.ins C dx fs)) (c:Cls X.K C) (k:Meth X.K C m g) (l:fs.lookup m=none)
 (h:Q (.ref g,[.ref a]) s):wpAny (model X.prog X.w) A (getMethod (.ref a) m pl) Q E s:=by
 obtain⟨mA,O,r,_,_,_⟩:=rT I.hok e;have hn:mA m=none:=rX.none_of (by rw[<-l];exact r m);exact Bf I.kIn O (c.get m) k.at_ k.fn hn h
theorem wN {y:V}{u:Value}{Q:Unit->Shared->Prop}(I:Inv X pins σ H s) (e:H a=some (.ins C dx fs)) (c:Cls X.K C) (n:be X.K C f) (hl:fs.length < 1000) (ry:bR y u)
 (h:∀ s',Inv X pins σ (upd H a (.ins C dx (bO f y fs))) s'->Q () s'):wpAny (model X.prog X.w) A (setAttr (.ref a) f u) Q E s:=by
 obtain⟨mA,O,r,wi,_,ho⟩:=rT I.hok e;have hz:(fs.map (·.1)).length <= sizeLine:=by rw[length_map,sizeLine_eq];omega
 refine DR I.kIn O c.sa c.po n.taker c.hd wi hz λh' O' sb=>h _ ?_
 have hd:∃ o,h'.get? dx=some o:=let ⟨o,_,_,e',_⟩:=O'.ns;⟨o,e'⟩;refine I.write (x:=a) (e:=dx) (by rw[e];exact True.intro) (.inr ho) (λb q hb z=>(sb.2 b hb).trans z) hd ?_;refine⟨by rw[aa O.ne];exact ho,?_,O.ne,O'.obj,_,O'.ns,λg=>?_,λg hg=>?_⟩
 . have:=o9 f y fs;omega
 . show rX ((bO f y fs).lookup g) (if g=f then some u else mA g);rw[a8];by_cases q:g=f
   . rw[if_pos q,if_pos q];exact ry
   . rw[if_neg q,if_neg q];exact r g
 . by_cases q:g=f
   . rw[q];exact(n8 f y fs).1
   . refine(n8 f y fs).2 g (wi g λz=>hg ?_);show (if g=f then some u else mA g)=none;rw[if_neg q];exact z
theorem Inv.made (I:Inv X pins σ H s):Inv X pins σ (upd (upd H s.heap.objs.size (.own (s.heap.objs.size+1))) (s.heap.objs.size+1) (.ins C s.heap.objs.size []))
 { s with heap:=(s.heap.push emptyDict).push (instObj C s.heap.objs.size) }:=by
 have e1:(s.heap.push emptyDict).get? s.heap.objs.size=some emptyDict:=Heap.get?_push_size s.heap rfl;have e2:((s.heap.push emptyDict).push (instObj C s.heap.objs.size)).get? (s.heap.objs.size+1)=some (instObj C s.heap.objs.size):=by
  have:=Heap.get?_push_size (s.heap.push emptyDict) (o:=instObj C s.heap.objs.size) rfl;rwa [Heap.size_push]at this
 have e3:(s.heap.push emptyDict).Ns s.heap.objs.size (λ_=>none):=⟨emptyDict,#[],_,e1,rfl,(λe he=>absurd he (by simp)),λ_=>rfl⟩
 have I1:=I.laid (a:=s.heap.objs.size) (o:=.own (s.heap.objs.size+1)) (h':=s.heap.push emptyDict) (t':=s.toks) (λb u q=>Heap.get?_push_of_some _ q) (Nat.le_refl _) ⟨_,e1⟩;refine I1.laid (a:=s.heap.objs.size+1) (o:=.ins C s.heap.objs.size []) (t':=s.toks) (λb u q=>Heap.get?_push_of_some _ q) (le_of_eq (Heap.size_push _ _)) ?_;have ne:s.heap.objs.size≠s.heap.objs.size+1:=ne_of_lt (lt_succ_self _);refine⟨by rw[aa ne,a6],zero_le _,ne,e2,λ_=>none,(Heap.Ns1.of_empty e3).at λo q=>Heap.get?_push_of_some _ q,λ_=>True.intro,λy hy=>absurd rfl hy⟩
theorem Ds {prog:Program}{w:World}{env:Env}{e:Expr}{f:Str}{pos:Pos}{s:Shared}{Q:Value->Shared->Prop}(hb:attributeBase e f env (eval e env)=eval e env)
 (h:wpAny (model prog w) A (eval e env) (λo s₁=>wpAny (model prog w) A (getAttr o f true) Q E s₁) E s):wpAny (model prog w) A (eval (.Attribute e f pos) env) Q E s :=
 Attribute_any_ h (by rw[arm_eval_Attribute,hb])
end
def G1 (K:PySem.W.Frag) (ta:TE) (f:Str):TE:=λσ H Q=>ta σ H λx H1=>∃ a C dx fs v,x=.ref a/\H1 a=some (.ins C dx fs)/\Cls K C/\be K C f/\fs.lookup f=some v/\Q v H1
def HK (K:PySem.W.Frag) (ta tv:TE) (f:Str):TS:=λD σ H=>tv σ H λy H1=>ta σ H1 λx H2=>∃ a C dx fs,x=.ref a/\H2 a=some (.ins C dx fs)/\Cls K C/\be K C f/\fs.length < 1000 /\
 D.nx σ (upd H2 a (.ins C dx (bO f y fs)))
section
variable {X:Cx}{o e value:Expr}{f:Str}{pos pos' tpos:Pos}{ta tv:TE}
theorem ak (he:PE X e ta) (hb:attributeBase e f X.env (eval e X.env)=eval e X.env):PE X (.Attribute e f pos) (G1 X.K ta f):=by
 intro pins s σ H Q I h;refine Ds hb (thn (he pins s σ H _ I h) λu s1 ⟨x,H1,I1,rx,a,C,dx,fs,v,ex,ea,c,n,l,q⟩=>?_);subst ex;obtain rfl:u=Value.ref a:=rx;exact wY I1 ea c n l λu' s2 I2 ru=>⟨v,H1,I2,ru,q⟩
theorem bL (ha:PE X o ta) (hv:PE X value tv) (hs:swapsWith value (some (.Attribute o f pos')) pos.line X.env=pure false):PS X (.Assign [.Attribute o f pos'] value pos) (HK X.K ta tv f):=by
 intro pins s σ H D I h;refine plainObj_wpAny_Assign_Attribute (thn (hv pins s σ H _ I h) λu s1 ⟨y,H1,I1,ry,q⟩=>thn (ha pins s1 σ H1 _ I1 q) λov s2 ⟨x,H2,I2,rx,a,C,dx,fs,ex,ea,c,n,l,q2⟩=>?_) hs;subst ex;obtain rfl:ov=Value.ref a:=rx;exact wN I2 ea c n l ry λs3 I3=>⟨σ,_,I3,q2⟩
end
section
variable {X:Cx}{pins:List (Addr × Obj)}{σ:St}{H:Hp}{s:Shared}{A:Around}{E:Value->Shared->Prop}{Q:Value->Shared->Prop}{c:Value}{b:Bool}
inductive TyOf (K:PySem.W.Frag) (H:Hp):V->Value->Prop where
|non:TyOf K H .non (.type "NoneType")
|bl (x:Bool):TyOf K H (.bl x) (.type "bool")
|int (i:Int):TyOf K H (.int i) (.type "int")
|str (x:Str):TyOf K H (.str x) (.type "str")
|flt (x:UInt64):TyOf K H (.flt x) (.type "float")
|lst {a:Addr} {xs:List V} (e:H a=some (.lst xs)):TyOf K H (.ref a) (.type "list")
|frz {a:Addr} {o:Obj} {xs:List V} (e:H a=some (.frz o (.lst xs))):TyOf K H (.ref a) (.type "list")
|tup {a:Addr} {xs:List V} (e:H a=some (.tup xs)):TyOf K H (.ref a) (.type "tuple")
|dK {a:Addr} {kvs:List (Key × V)} (e:H a=some (.dK kvs)):TyOf K H (.ref a) (.type "dict")
|dT {a:Addr} {kvs:List (List Key × V)} (e:H a=some (.dT kvs)):TyOf K H (.ref a) (.type "dict")
|ins {a C dx:Addr} {fs:List (Str × V)} (e:H a=some (.ins C dx fs)) (cl:Cls K C) (ha:findIn K (.ref C) "__class__"=some (some (.builtin "object.__class__")))
  (hn:specialIn K (.builtin "object.__class__") "__get__"=some (some (.builtin "getset_descriptor.__get__"))) (htk:takesIn K (.builtin "object.__class__")=some true)
  (hm:mroIn K C (.type "object")=some true):TyOf K H (.ref a) (.ref C)
theorem yD {x:V}{u t:Value}(I:Inv X pins σ H s) (rx:bR x u) (ty:TyOf X.K H x t) (e:kitOne X.K t c=some b) (h:∀ tk,Q (.bool b) { s with toks:=tk }) :
 wpAny (model X.prog X.w) A (call (.builtin "isinstance") [u,c]) Q E s:=by
 cases ty with
|non=>cases (show u=Value.none from rx);exact kia_one kitx_none I.kIn True.intro e (λz=>nomatch z) h
|bl y=>cases (show u=Value.bool y from rx);exact kia_one kitx_bool I.kIn True.intro e (λz=>nomatch z) h
|int i=>obtain⟨t,q⟩:=(show ∃ t,u=Value.int i t from rx);cases q;exact kia_one kitx_int I.kIn True.intro e (λz=>nomatch z) h
|str y=>obtain⟨t,q⟩:=(show ∃ t,u=Value.str y t from rx);cases q;exact kia_one kitx_str I.kIn True.intro e (λz=>nomatch z) h
|flt y=>obtain⟨t,q⟩:=(show ∃ t,u=Value.float y t from rx);cases q;exact kia_one kitx_float I.kIn True.intro e (λz=>nomatch z) h
|@lst a xs ea =>
  cases (show u=Value.ref a from rx);obtain⟨_,_,n,_,h1⟩:=(show cT X.prog X.w H s.heap a (.lst xs) from I.hok a _ ea)
  exact kia_one kitx_list I.kIn ⟨_,h1,rfl⟩ e (λz=>nomatch z) h
|@frz a ob xs ea =>
  cases (show u=Value.ref a from rx);obtain⟨_,_,_,n,_,h1⟩:=(show cT X.prog X.w H s.heap a (.frz ob (.lst xs)) from I.hok a _ ea)
  exact kia_one kitx_list I.kIn ⟨_,h1,rfl⟩ e (λz=>nomatch z) h
|@tup a xs ea =>
  cases (show u=Value.ref a from rx);obtain⟨_,_,_,p⟩:=(show cT X.prog X.w H s.heap a (.tup xs) from I.hok a _ ea)
  obtain⟨o,h1,h2,_⟩:=p;exact kia_one kitx_tuple I.kIn ⟨o,h1,h2⟩ e (λz=>nomatch z) h
|@dK a kvs ea =>
  cases (show u=Value.ref a from rx);obtain⟨_,_,vs,_,p⟩:=(show cT X.prog X.w H s.heap a (.dK kvs) from I.hok a _ ea)
  obtain⟨o,es,ep,h1,h2,_⟩:=p;exact kia_one kitx_dict I.kIn ⟨o,h1,h2.1⟩ e (λz=>nomatch z) h
|@dT a kvs ea =>
  cases (show u=Value.ref a from rx);obtain⟨_,_,xs,_,o,es,ep,h1,h2,_⟩:=(show cT X.prog X.w H s.heap a (.dT kvs) from I.hok a _ ea)
  exact kia_one kitx_dict I.kIn ⟨o,h1,h2.1⟩ e (λz=>nomatch z) h
|@ins a C dx fs ea cl ha hn htk hm =>
  cases (show u=Value.ref a from rx);obtain⟨mA,O,_⟩:=rT I.hok ea;obtain⟨od,J,_⟩:=O.look;exact kia_one (kitx_own (cl.get _) cl.hd ha hn htk hm) I.kIn J e (λz=>nomatch z) h
end
structure Room (k:Nat) (A:Around):Prop where
 hd:A.handled=none
 dp:A.depth+3 * k+5 < recursionLimit
 un:A.units+16 * k+200 < cLine
theorem Room.mono {j k:Nat}{A:Around}(r:Room k A) (h:j <= k):Room j A:=⟨r.hd,by have:=r.dp;omega,by have:=r.un;omega⟩
theorem Room.deeper {k:Nat}{A:Around}(r:Room (k+1) A) (env:Env):Room k (A.deeper env) :=
 ⟨r.hd,by have:=r.dp;show A.depth+1+3 * k+5 < _;omega,by have:=r.un;show A.units+3+16 * k+200 < _;omega⟩
theorem xr {A:Around}{C:Addr}{us:List Value}{kw:List (Str × Value)}:(A.under (.builtin "type.__call__" ⟨.ref C :: us,kw⟩)).depth=A.depth+1:=by
 first|rfl|simp[Around.under,Code.weight,Code.isCreation,Code.isGuard,Code.isCaller,Code.frames,Code.isFrame,guardIds]
theorem xz {A:Around}{C:Addr}{us:List Value}{kw:List (Str × Value)}:(A.under (.builtin "type.__call__" ⟨.ref C :: us,kw⟩)).units=A.units+1:=by
 first|rfl|simp[Around.under,Code.cUnits,Code.frames,Code.isFrame]
theorem Room.make {k:Nat}{A:Around}(r:Room (k+1) A) (C:Addr) (us:List Value) (kw:List (Str × Value)):Room k (A.under (.builtin "type.__call__" ⟨.ref C :: us,kw⟩)) :=
 ⟨r.hd,by have:=r.dp;rw[xr];omega,by have:=r.un;rw[xz];omega⟩
theorem Room.depth {k:Nat}{A:Around}(r:Room k A):A.depth < recursionLimit:=by have:=r.dp;omega
theorem Room.units {k:Nat}{A:Around}(r:Room k A):A.units+64 < cLine:=by have:=r.un;omega
def CB:TA:=λ_ H Q=>Q [] H
def tJ (ta:TE) (tr:TA):TA:=λσ H Q=>ta σ H λx H1=>tr σ H1 λxs H2=>Q (x :: xs) H2
section
variable {X:Cx}{e:Expr}{es:List Expr}{te:TE}{t:TA}{pos:Pos}
theorem a9:PA X [] CB:=λ_ _ _ _ H Q I h=>Calls.spliced_nil ⟨[],H,I,.nil,h⟩
theorem yL (ha:PE X e te) (hr:PA X es t) (hs:starEach (e :: es) X.env=(false,eval e X.env) :: starEach es X.env:=by rfl):PA X (e :: es) (tJ te t):=by
 intro pos pins s σ H Q I h;rw[hs];show wpAny _ _ (spliced ((false,eval e X.env) :: backTo pos (starEach es X.env))) _ _ s;refine Calls.spliced_cons (thn (ha pins s σ H _ I h) λu s1 ⟨x,H1,I1,r1,q1⟩=>?_);exact thn (hr pos pins s1 σ H1 _ I1 q1) λus s2 ⟨xs,H2,I2,r2,q2⟩=>⟨x :: xs,H2,I2,.cons r1 r2,q2⟩
def GO (t:TA):TE:=λσ H Q=>t σ H λxs H1=>xs.length <= sizeLine/\∀ p,H1 p=none->Q (.ref p) (upd H1 p (.tup xs))
def HG (t:TA):TE:=λσ H Q=>t σ H λxs H1=>xs.length <= sizeLine/\∀ p,H1 p=none->Q (.ref p) (upd H1 p (.lst xs))
theorem aO {x1}(h:PA X es t):PE X (.Tuple es x1 pos) (GO t):=by
 intro pins s σ H Q I hq;refine wpAny_Tuple_spliced (thn (h pos pins s σ H _ I hq) λus s1 ⟨xs,H1,I1,r,z,q⟩=>⟨by rw[<-r.length];exact z,?_⟩);have hf:H1 s1.heap.objs.size=none:=I1.hok.fresh (Nat.le_refl _);refine⟨.ref s1.heap.objs.size,upd H1 s1.heap.objs.size (.tup xs),I1.laid (t':=s1.toks) (λb u e=>Heap.get?_push_of_some _ e) (Nat.le_refl _) ?_,rfl,q _ hf⟩;exact⟨z,us,r,⟨_,Heap.get?_push_size _ rfl,rfl,_,rfl⟩⟩
theorem bV (h:PA X es t):PE X (.List es pos) (HG t):=by
 intro pins s σ H Q I hq;refine wpAny_List_spliced (thn (h pos pins s σ H _ I hq) λus s1 ⟨xs,H1,I1,r,z,q⟩=>⟨by rw[<-r.length];exact z,?_⟩);have hf:H1 s1.heap.objs.size=none:=I1.hok.fresh (Nat.le_refl _);refine⟨.ref s1.heap.objs.size,upd H1 s1.heap.objs.size (.lst xs),I1.laid (t':=s1.toks) (λb u e=>Heap.get?_push_of_some _ e) (Nat.le_refl _) ?_,rfl,q _ hf⟩;exact⟨z,us,0,r,Heap.get?_push_size _ rfl⟩
end
abbrev Sp:=List V->Hp->VK->XK->Prop
abbrev CXT:=List Env->Hp->Shared->XK->Value->Shared->Prop
structure Env0 (P:Program) (w:World) (K:PySem.W.Frag) (mg:Str->Option Value) (base:Heap) (A:Around) (outer:List Env) (s:Shared) (H:Hp):Prop where
 frames:A.frames=some outer
 mod:Mod K mg base
 bs:∀ b o,base.get? b=some o->s.heap.get? b=some o/\H b=none
 bsz:base.objs.size <= s.heap.objs.size
 funs:s.heap.FunFrames base outer
 frf:∀ b∈frs outer,H b=none
 hok:HOk P w H s.heap
 bare:AllBare s.gens
def CE (outer:List Env) (P:Program) (w:World) (H:Hp) (s:Shared) (Q:VK) (u:Value) (s':Shared):Prop :=
 ∃ v H',s'.os=s.os/\AllBare s'.gens/\Un (frs outer) [] H H' s.heap s'.heap/\HOk P w H' s'.heap/\bR v u/\Q v H'
def CR (CX:CXT) (outer:List Env) (P:Program) (w:World) (H:Hp) (s:Shared) (Q:VK) (E:XK) (r:Result) (s':Shared):Prop :=
 match r with
|.ok (.ret u)=>CE outer P w H s Q u s'
|.ok _=>False
|.error e=>CX outer H s E e s'
structure FnOk (P:Program) (w:World) (K:PySem.W.Frag) (mg:Str->Option Value) (base:Heap) (CX:CXT) (k:Nat) (f:Addr) (fd:FuncData) (ps:List Str) (sp:Sp):Prop where
 len:∀ vs H Q E,sp vs H Q E->vs.length=ps.length
 run:∀ (A:Around) (outer:List Env) (s:Shared) (H:Hp) (args:Args) (us:List Value) (vs:List V) (Q:VK) (E:XK),Room k A->Env0 P w K mg base A outer s H->BindsTo s fd args (ps.zip us)->bC vs us->sp vs H Q E ->
  codeAny (model P w) A (.call (.ref f) args) (CR CX outer P w H s Q E) s
theorem FnOk.imp {P:Program}{w:World}{K:PySem.W.Frag}{mg:Str->Option Value}{base:Heap}{CX:CXT}{k:Nat}{f:Addr}{fd:FuncData}{ps:List Str}{sp sp':Sp}(F:FnOk P w K mg base CX k f fd ps sp)
 (h:∀ vs H Q E,sp' vs H Q E->sp vs H Q E):FnOk P w K mg base CX k f fd ps sp' :=
 ⟨λvs H Q E q=>F.len vs H Q E (h _ _ _ _ q),λA outer s H args us vs Q E hr he hb hv hs=>F.run A outer s H args us vs Q E hr he hb hv (h _ _ _ _ hs)⟩
theorem Env0.make {P:Program}{w:World}{K:PySem.W.Frag}{mg:Str->Option Value}{base:Heap}{A:Around}{outer:List Env}{s:Shared}{H:Hp}(e:Env0 P w K mg base A outer s H) (C:Addr) (us:List Value) (kw:List (Str × Value)) :
 Env0 P w K mg base (A.under (.builtin "type.__call__" ⟨.ref C :: us,kw⟩)) outer s H:=⟨by first|exact e.frames|(simpa [Around.under,Code.envs,Code.isFrame,pushEnvs] using e.frames),e.mod,e.bs,e.bsz,e.funs,e.frf,e.hok,e.bare⟩
theorem Env0.in1 {P:Program}{w:World}{K:PySem.W.Frag}{mg:Str->Option Value}{base:Heap}{A:Around}{outer:List Env}{s:Shared}{H:Hp}(e:Env0 P w K mg base A outer s H) :
 Env0 P w K mg base A.in1 outer s H:=⟨e.frames,e.mod,e.bs,e.bsz,e.funs,e.frf,e.hok,e.bare⟩
section
variable {X:Cx}{pins:List (Addr × Obj)}{σ:St}{H:Hp}{s s':Shared}
theorem Inv.env0 (I:Inv X pins σ H s):Env0 X.prog X.w X.K X.mg X.base X.A X.stack s H :=
 ⟨I.ok.frames,I.ok.mod,I.bs,Nat.le_trans I.ok.bsz I.sz,I.stack,I.stkFree,I.hok,I.bare⟩
theorem Inv.after {Q:VK}{u:Value}(I:Inv X pins σ H s) (h:CE X.stack X.prog X.w H s Q u s'):EP X pins σ Q u s':=by
 obtain⟨v,H',os,bare,un,hok,r,q⟩:=h;obtain⟨hh,g,d,t,os'⟩:=s';obtain rfl:os'=s.os:=os;exact⟨v,H',I.call (h':=hh) (g':=g) (d':=d) (t':=t) (ch:=[]) un hok bare (λb z=>absurd z (by simp)),r,q⟩
end
def EN (sp:Sp) (dvs:List V) (E:XK) (t:TA):TE:=λσ H Q=>t σ H λvs H1=>sp (vs++dvs) H1 Q E
def Df (C:Addr) (m:Str) (sp:Sp) (dvs:List V) (E:XK) (ta:TE) (t:TA):TE:=λσ H Q=>ta σ H λx H1=>∃ a dx fs,x=.ref a/\H1 a=some (.ins C dx fs)/\fs.lookup m=none /\
 t σ H1 λvs H2=>sp (x :: (vs++dvs)) H2 Q E
def Fq (C:Addr) (sp:Sp) (dvs:List V) (E:XK) (t:TA):TE:=λσ H Q=>t σ H λvs H1=>∀ x dx,H1 x=none->H1 dx=none->dx≠x ->
 sp (.ref x :: (vs++dvs)) (upd (upd H1 dx (.own x)) x (.ins C dx [])) (λv H2=>v=.non/\Q (.ref x) H2) E
def aC (K:PySem.W.Frag) (fd:FuncData) (ps:List Str) (ds:List Value):Prop :=
 ∀ (s:Shared) (us:List Value),K.In s.heap->(us++ds).length=ps.length->BindsTo s fd ⟨us,[]⟩ (ps.zip (us++ds))
theorem aC.all {K:PySem.W.Frag}{fd:FuncData}{ps:List Str}(h:∀ us:List Value,us.length=ps.length->bindArgs fd ⟨us,[]⟩=pure (ps.zip us)):aC K fd ps []:=λs us _ hl=>by
 rw[append_nil]at hl |-;exact .of_eq (h us hl)
def jB (CX:CXT) (X:Cx) (E:XK):Prop:=∀ (pins:List (Addr × Obj)) (σ:St) (H:Hp) (s:Shared) (e:Value) (s':Shared),Inv X pins σ H s->CX X.stack H s E e s'->X.xe e s'
section
variable {X:Cx}{CX:CXT}{k:Nat}{f C:Addr}{fd:FuncData}{ps:List Str}{sp:Sp}{dvs:List V}{ds:List Value}{E:XK}{x m:Str}{p pos apos:Pos}{e o:Expr}{es:List Expr}{ta:TE}{t:TA}
theorem zT {pins:List (Addr × Obj)}{σ:St}{H:Hp}{s:Shared}{Q:VK}{us:List Value}{vs:List V}(F:FnOk X.prog X.w X.K X.mg X.base CX k f fd ps sp) (hr:Room k X.A) (hb:aC X.K fd ps ds) (hd:bC dvs ds) (hx:jB CX X E)
 (I:Inv X pins σ H s) (r:bC vs us) (h:sp (vs++dvs) H Q E):wpAny (model X.prog X.w) X.A (call (.ref f) us) (EP X pins σ Q) X.xe s:=by
 have r2:bC (vs++dvs) (us++ds):=r.append hd;have hl:(us++ds).length=ps.length:=by rw[<-r2.length];exact F.len _ _ _ _ h
 refine wpAny_call (codeAny_mono (F.run X.A X.stack s H ⟨us,[]⟩ (us++ds) (vs++dvs) Q E hr I.env0 (hb s us I.kIn hl) r2 h) λr s' hq=>?_);cases r with
|error e=>exact hx pins σ H s e s' I hq
|ok fl =>
  cases fl with
 |ret u=>exact I.after hq
 |next=>exact False.elim hq
 |brk=>exact False.elim hq
 |cont=>exact False.elim hq
theorem aS (F:FnOk X.prog X.w X.K X.mg X.base CX k f fd ps sp) (hr:Room k X.A) (hg:Gl X x) (hm:X.mg x=some (.ref f)) (hk:keepIn X.K (.ref f)=true) (hb:aC X.K fd ps ds) (hd:bC dvs ds) (hx:jB CX X E)
 (ha:PA X (e :: es) t) (hdb:(x == ("__debug__":Str))=false:=by decide) (he:starEach (e :: es) X.env=(false,eval e X.env) :: starEach es X.env:=by rfl) (hpl:(backTo pos (starEach es X.env)).any (·.1)=false:=by rfl) :
 PE X (.Call (.Name x p) (e :: es) [] pos) (EN sp dvs E t):=by
 intro pins s σ H Q I h;refine wpAny_Call_Name_kw (ik I hg hm ?_ hdb);refine callWith_K (h₀:=X.base) I.ok.mod.kin hk (thn (ha pos pins s σ H _ I h) λus s1 ⟨vs,H1,I1,r,q⟩=>⟨I1.kIn,?_⟩) he hpl;exact zT F hr hb hd hx I1 r q
theorem aB {pl:Sem Bool}(he:PE X o ta) (c:Cls X.K C) (hm:Meth X.K C m f) (F:FnOk X.prog X.w X.K X.mg X.base CX k f fd ps sp) (hr:Room k X.A) (hb:aC X.K fd ps ds) (hd:bC dvs ds) (hx:jB CX X E) (ha:PA X (e :: es) t)
 (hst:starEach (e :: es) X.env=(false,eval e X.env) :: starEach es X.env:=by rfl) (hpl:(backTo pos (starEach es X.env)).any (·.1)=false:=by rfl)
 (ht:eval (.Call (.Attribute o m apos) (e :: es) [] pos) X.env=(do
  let ov <-eval o X.env
  standAt apos.atName
  let (f,first) <-holding [ov] (getMethod ov m pl)
  callWith pos f first (backTo pos (starEach (e :: es) X.env)) (backToKw pos (keywordEach [] X.env))):=by rfl) :
 PE X (.Call (.Attribute o m apos) (e :: es) [] pos) (Df C m sp dvs E ta t):=by
 intro pins s σ H Q I h;refine methodCall_KW (pl:=pl) (thn (he pins s σ H _ I h) λu s1 ⟨x,H1,I1,rx,a,dx,fs,ex,ea,l,q⟩=>?_) ht;subst ex;obtain rfl:u=Value.ref a:=rx;refine lS I1 ea c hm l ?_;refine callWith_K (first:=[.ref a]) (h₀:=X.base) I.ok.mod.kin hm.kp (thn (ha pos pins s1 σ H1 _ I1 q) λus s2 ⟨vs,H2,I2,r,q2⟩=>⟨I2.kIn,?_⟩) hst hpl;exact zT (us:=.ref a :: us) (vs:=.ref a :: vs) F hr hb hd hx I2 (.cons rfl r) q2
theorem bf {pl:Sem Bool}(he:PE X o ta) (c:Cls X.K C) (hm:Meth X.K C m f) (F:FnOk X.prog X.w X.K X.mg X.base CX k f fd ps sp) (hr:Room k X.A) (hb:aC X.K fd ps ds) (hd:bC dvs ds) (hx:jB CX X E)
 (ht:eval (.Call (.Attribute o m apos) [] [] pos) X.env=(do
  let ov <-eval o X.env
  standAt apos.atName
  let (f,first) <-holding [ov] (getMethod ov m pl)
  callWith pos f first (backTo pos (starEach [] X.env)) (backToKw pos (keywordEach [] X.env))):=by rfl) :
 PE X (.Call (.Attribute o m apos) [] [] pos) (Df C m sp dvs E ta CB):=by
 intro pins s σ H Q I h;refine methodCall_KW (pl:=pl) (thn (he pins s σ H _ I h) λu s1 ⟨x,H1,I1,rx,a,dx,fs,ex,ea,l,q⟩=>?_) ht;subst ex;obtain rfl:u=Value.ref a:=rx;refine lS I1 ea c hm l ?_;exact callWith_K0 (first:=[.ref a]) I1.kIn hm.kp (zT (us:=[.ref a]) (vs:=[.ref a]) F hr hb hd hx I1 (.cons rfl .nil) q)
structure Mk (K:PySem.W.Frag) (C f:Addr):Prop where
 makes:makesIn K C=true
 init:findIn K (.ref C) "__init__"=some (some (.ref f))
 fn:isFn K (.ref f)=true
 kp:keepIn K (.ref C)=true
theorem vj {pins:List (Addr × Obj)}{σ:St}{H:Hp}{s:Shared}{Q:VK}{us:List Value}{vs:List V}(M:Mk X.K C f) (F:FnOk X.prog X.w X.K X.mg X.base CX k f fd ps sp) (hr:Room (k+1) X.A) (hb:aC X.K fd ps ds) (hd:bC dvs ds)
 (hx:jB CX X E) (I:Inv X pins σ H s) (r:bC vs us)
 (h:∀ x dx,H x=none->H dx=none->dx≠x->sp (.ref x :: (vs++dvs)) (upd (upd H dx (.own x)) x (.ins C dx [])) (λv H2=>v=.non/\Q (.ref x) H2) E) :
 wpAny (model X.prog X.w) X.A (call (.ref C) us) (EP X pins σ Q) X.xe s:=by
 have hq:=h (s.heap.objs.size+1) s.heap.objs.size (I.hok.fresh (le_succ _)) (I.hok.fresh (Nat.le_refl _)) (ne_of_lt (lt_succ_self _));have I2:=Inv.made (C:=C) I;have r2:bC (V.ref (s.heap.objs.size+1) :: (vs++dvs)) (Value.ref (s.heap.objs.size+1) :: (us++ds)):=.cons rfl (r.append hd);have hl:(Value.ref (s.heap.objs.size+1) :: us++ds).length=ps.length:=by
  have e:=r2.length;rw[F.len _ _ _ _ hq]at e;exact e.symm
 refine wpAny_call (AF (f:=f) I.kIn M.makes M.init (beq_iff_eq.mp M.fn) (codeAny_mono (F.run _ X.stack _ _ ⟨Value.ref (s.heap.objs.size+1) :: us,[]⟩ (Value.ref (s.heap.objs.size+1) :: (us++ds)) _ _ E (hr.make C us [])
  (I2.env0.make C us []) (hb _ (Value.ref (s.heap.objs.size+1) :: us) I2.kIn hl) r2 hq) λr s' hq'=>?_))
 cases r with
|error e=>exact hx pins σ _ _ e s' I2 hq'
|ok fl =>
  cases fl with
 |ret u =>
   obtain⟨v,H',I3,rv,ev,q3⟩:=I2.after hq';subst ev;exact⟨rv,⟨V.ref (s.heap.objs.size+1),H',I3,rfl,q3⟩⟩
 |next=>exact False.elim hq'
 |brk=>exact False.elim hq'
 |cont=>exact False.elim hq'
theorem jS (M:Mk X.K C f) (F:FnOk X.prog X.w X.K X.mg X.base CX k f fd ps sp) (hr:Room (k+1) X.A) (hg:Gl X x) (hm:X.mg x=some (.ref C)) (hb:aC X.K fd ps ds) (hd:bC dvs ds) (hx:jB CX X E)
 (ha:PA X (e :: es) t) (hdb:(x == ("__debug__":Str))=false:=by decide) (he:starEach (e :: es) X.env=(false,eval e X.env) :: starEach es X.env:=by rfl) (hpl:(backTo pos (starEach es X.env)).any (·.1)=false:=by rfl) :
 PE X (.Call (.Name x p) (e :: es) [] pos) (Fq C sp dvs E t):=by
 intro pins s σ H Q I h;refine wpAny_Call_Name_kw (ik I hg hm ?_ hdb);refine callWith_K (h₀:=X.base) I.ok.mod.kin M.kp (thn (ha pos pins s σ H _ I h) λus s1 ⟨vs,H1,I1,r,q⟩=>⟨I1.kIn,?_⟩) he hpl;exact vj M F hr hb hd hx I1 r q
theorem BP (M:Mk X.K C f) (F:FnOk X.prog X.w X.K X.mg X.base CX k f fd ps sp) (hr:Room (k+1) X.A) (hg:Gl X x) (hm:X.mg x=some (.ref C)) (hb:aC X.K fd ps ds) (hd:bC dvs ds) (hx:jB CX X E)
 (hdb:(x == ("__debug__":Str))=false:=by decide):PE X (.Call (.Name x p) [] [] pos) (Fq C sp dvs E CB):=by
 intro pins s σ H Q I h;refine wpAny_Call_Name_kw (ik I hg hm ?_ hdb);exact callWith_K0 I.kIn M.kp (vj (us:=[]) M F hr hb hd hx I .nil h)
end
section
variable {X:Cx}{CX:CXT}{k:Nat}{f C:Addr}{fd:FuncData}{ps ks:List Str}{sp:Sp}{E:XK}{x m:Str}{p pos apos kpos:Pos}{e o:Expr}{es:List Expr}{kws:List Keyword}{te ta:TE}{t tk:TA}{nm:Option Str}
variable {g:List Value->List Value->List Value}{gV:List V->List V->List V}
end
structure FnScope (N P:List Str) (sc:Scope):Prop where
 kind:sc.kind=.function
 co:sc.isCoroutine=false
 gen:sc.isGenerator=false
 nd:N.Nodup
 pre:N.take P.length=P
 par:∀ x∈P,sc.names.lookup x=some .local\/sc.names.lookup x=some .cell
 nofree:∀ y∈sc.names,y.2≠.free
theorem tZ {kindOf:Str->Option NameKind}{x:Str}:∀ {binds:List (Str × Value)}{m:Str->Option Value},(∀ v,(x,v) ∉ binds)->bindL kindOf binds m x=m x
|[],_,_=>rfl
|(n,v) :: r,m,h=>by
  unfold bindL;rw[tZ λw hw=>h w (mem_cons_of_mem _ hw)];split
  . have:x≠n:=by rintro rfl;exact h v mem_cons_self
    simp[this]
  . rfl
theorem tG {kindOf:Str->Option NameKind}{x:Str}:∀ {binds:List (Str × Value)}{m:Str->Option Value},(∀ v,(x,v) ∉ binds)->bindC kindOf binds m x=m x
|[],_,_=>rfl
|(n,v) :: r,m,h=>by
  unfold bindC;rw[tG λw hw=>h w (mem_cons_of_mem _ hw)];split
  . rfl
  . have:x≠n:=by rintro rfl;exact h v mem_cons_self
    simp[this]
theorem tM {kindOf:Str->Option NameKind}{x:Str}{v:Value}:∀ {P:List Str}{vs:List Value}{i:Nat}{m:Str->Option Value},P.Nodup->P[i]?=some x->vs[i]?=some v->kindOf x=some .local ->
 bindL kindOf (P.zip vs) m x=some v
|[],_,_,_,_,h,_,_=>by simp at h
|_ :: _,[],_,_,_,_,h,_=>by simp at h
|p :: P,w :: vs,0,m,nd,h1,h2,hk=>by
  simp at h1 h2;subst h1;subst h2;show bindL kindOf ((p,w) :: P.zip vs) m p=_;unfold bindL;rw[tZ λv hv=>(nodup_cons.mp nd).1 (of_mem_zip hv).1,if_pos hk];simp
|p :: P,w :: vs,i+1,m,nd,h1,h2,hk=>by
  show bindL kindOf ((p,w) :: P.zip vs) m x=_;unfold bindL;exact tM (i:=i) (nodup_cons.mp nd).2 (by simpa using h1) (by simpa using h2) hk
theorem sP {kindOf:Str->Option NameKind}{x:Str}{v:Value}:∀ {P:List Str}{vs:List Value}{i:Nat}{m:Str->Option Value},P.Nodup->P[i]?=some x->vs[i]?=some v->kindOf x≠some .local ->
 bindC kindOf (P.zip vs) m x=some v
|[],_,_,_,_,h,_,_=>by simp at h
|_ :: _,[],_,_,_,_,h,_=>by simp at h
|p :: P,w :: vs,0,m,nd,h1,h2,hk=>by
  simp at h1 h2;subst h1;subst h2;show bindC kindOf ((p,w) :: P.zip vs) m p=_;unfold bindC;rw[tG λv hv=>(nodup_cons.mp nd).1 (of_mem_zip hv).1,if_neg hk];simp
|p :: P,w :: vs,i+1,m,nd,h1,h2,hk=>by
  show bindC kindOf ((p,w) :: P.zip vs) m x=_;unfold bindC;exact sP (i:=i) (nodup_cons.mp nd).2 (by simpa using h1) (by simpa using h2) hk
def rN (N:List Str) (vs:List V):St:=vs.map some++replicate (N.length - vs.length) none
def C2 (CX:CXT) (P:Program) (w:World) (K:PySem.W.Frag) (mg:Str->Option Value) (base:Heap) (N:List Str) (qual:Str) (scope:Scope) (f:Addr) (cd:Value) (A:Around) (outer:List Env) (s:Shared) (H:Hp) (E:XK):Cx where
 prog:=P
 w:=w
 K:=K
 mg:=mg
 base:=base
 A:=A.deeper (envOfC qual scope s.heap.objs.size f cd)
 N:=N
 s₀:=s
 H₀:=H
 env:=envOfC qual scope s.heap.objs.size f cd
 outer:=outer
 stack:=envOfC qual scope s.heap.objs.size f cd :: outer
 ex:=[]
 calm:=true
 fn:=λ_=>true
 pn:=[]
 xe:=λe s'=>wpAny (model P w) (A.deeper (envOfC qual scope s.heap.objs.size f cd)) (leaving (envOfC qual scope s.heap.objs.size f cd) e) (λ_ s''=>CX outer H s E e s'') (λe' s''=>CX outer H s E e' s'') s'
theorem vd {sc:Scope}{n:Nat}{x:Str}(h:sc.names.lookup x=some .cell):∃ c,(cellsFrom n sc.names []).lookup x=some c:=by
 have q:=cellsFrom_some sc.names n [] (.inl h);exact Option.isSome_iff_exists.mp q
theorem yx {CX:CXT}{P:Program}{w:World}{K:PySem.W.Frag}{mg:Str->Option Value}{base:Heap}{N ps:List Str}{qual:Str}{scope:Scope}{f:Addr}{cd:Value}{A:Around}{outer:List Env}{s s1:Shared}{H:Hp}{E:XK}{us:List Value}{vs:List V}
 (S:FnScope N ps scope) (hd:A.handled=none) (e0:Env0 P w K mg base A outer s H) (hl:vs.length=ps.length) (r:bC vs us)
 (x:InCallC s s.heap.objs.size (bindL (envOfC qual scope s.heap.objs.size f cd).kindOf (ps.zip us) λ_=>none) (cellsFrom (s.heap.objs.size+1) scope.names []) (bindC (envOfC qual scope s.heap.objs.size f cd).kindOf (ps.zip us) λ_=>none) s1) :
 Inv (C2 CX P w K mg base N qual scope f cd A outer s H E) [] (rN N vs) H s1:=by
 have hpl:ps.length <= N.length:=by have:=congrArg List.length S.pre;rw[length_take]at this;omega
 obtain⟨h1,tk,rfl,hk⟩:=x.done;have noA:∀ b:Addr,b ∉ (C2 CX P w K mg base N qual scope f cd A outer s H E).ex:=λb z=>absurd (show b∈([]:List Addr) from z) (by simp)
 refine⟨⟨e0.mod,S.kind,rfl,rfl,Nat.le_refl _,λy z c h1 h2=>?_,λy hy=>?_,λy c _ h=>?_,λ_=>hd,Around.frames_deeper e0.frames,.inr ⟨rfl,rfl⟩,λb z=>absurd z (noA b),e0.bs,e0.bsz,λb _ _=>noA b,λb z=>absurd z (noA b),e0.funs,e0.frf⟩,
  rfl,e0.bare,Un.kept hk,⟨_,x.toInCall.ns,λi y v h1 h2 h3=>?_⟩,λy c h=>⟨_,x.cell y c h⟩,e0.hok.fresh (Nat.le_refl _),λy c h=>?_,λp hp=>absurd (show p∈([]:List (Addr × Obj)) from hp) (by simp),e0.hok.kept hk,?_⟩
 . exact name_of_addr x.apart (PySem.mem_of_lookup h1) (PySem.mem_of_lookup h2)
 . have hy:scope.names.lookup y=some .cell\/scope.names.lookup y=some .free:=hy;rcases hy with hy|hy
   . exact vd hy
   . exact absurd rfl (S.nofree _ (PySem.mem_of_lookup hy))
 . exact Nat.le_of_lt (x.above y c (PySem.mem_of_lookup h))
 . have hi:i < vs.length:=by
    unfold rN at h2;by_cases hi:i < vs.length
    . exact hi
    . rw[List.getElem?_append_right (by simpa using hi)]at h2;rw[List.getElem?_replicate]at h2;split at h2<;>cases h2
   have ha:vs[i]?=some v:=by
    unfold rN at h2;rw[getElem?_append_left (by simpa using hi),getElem?_map]at h2;cases e:vs[i]? with
   |none=>rw[e]at h2;cases h2
   |some a=>rw[e]at h2;cases h2;rfl
   obtain⟨u,hu,rv⟩:=r.get ha;have hp:ps[i]?=some y:=by
    rw[<-S.pre,List.getElem?_take_of_lt (by omega)];exact h1
   have ndP:ps.Nodup:=by rw[<-S.pre];exact S.nd.sublist (List.take_sublist _ _)
   refine⟨u,rv,?_⟩;rcases S.par y (mem_of_getElem? hp) with k|k
   . exact .inl ⟨k,tM ndP hp hu k⟩
   . obtain⟨c,e⟩:=vd (n:=s.heap.objs.size+1) k;refine .inr ⟨.inl k,c,e,?_⟩;have q:=x.cell y c e;rw[sP ndP hp hu (by show scope.names.lookup y≠_;rw[k];decide)]at q;exact q
 . exact e0.hok.fresh (Nat.le_of_lt (x.above y c (PySem.mem_of_lookup h)))
 . unfold rN;show _=N.length;rw[List.length_append,length_map,length_replicate];omega
theorem Eu {CX:CXT}{P:Program}{w:World}{K:PySem.W.Frag}{mg:Str->Option Value}{base:Heap}{k:Nat}{f:Addr}{name qual:Str}{params:Arguments}{body:List Stmt}{scope:Scope}{dV kV doc pm cdv ct oc:Value}{an od:Option Addr}
 {osl:Array (Option Value)} {N ps:List Str} {sp:Sp} (lk:K.lookup f=some ⟨oc,od,.func (fnOf name qual params body scope dV kV doc pm an cdv ct),osl⟩) (hcd:codeIn K cdv qual=true) (S:FnScope N ps scope)
 (len:∀ vs H Q E,sp vs H Q E->vs.length=ps.length)
 (hbody:∀ (A:Around) (outer:List Env) (s:Shared) (H:Hp) (vs:List V) (Q:VK) (E:XK),Room k (A.deeper (envOfC qual scope s.heap.objs.size f cdv))->sp vs H Q E ->
  ∃ t,PSs (C2 CX P w K mg base N qual scope f cdv A outer s H E) body t/\t { nx:=λ_ H'=>Q .non H',rt:=Q } (rN N vs) H) :
 FnOk P w K mg base CX (k+1) f (fnOf name qual params body scope dV kV doc pm an cdv ct) ps sp:=by
 refine⟨len,λA outer s H args us vs Q E hr e0 hb r hsp=>?_⟩;have hl:=len _ _ _ _ hsp;have KX:K.In s.heap:=e0.mod.kin.keeps λb o e=>(e0.bs b o e).1
 have lim:s.heap.NoLimit:=e0.mod.nolimit.keeps λb o e=>(e0.bs b o e).1
 have hkind:∀ y∈ps.zip us,scope.names.lookup y.1=some .local\/(scope.names.lookup y.1=some .cell/\((cellsFrom (s.heap.objs.size+1) scope.names []).lookup y.1).isSome=true):=λ⟨n,v⟩ hy=>by
  rcases S.par n (of_mem_zip hy).1 with q|q
  . exact .inl q
  . exact .inr ⟨q,cellsFrom_some _ _ _ (.inl q)⟩
 refine codeAny_call_function hr.depth (KX _ _ lk) rfl S.co S.gen rfl (codeRec_of KX hcd) (hb _ _ _ _ ?_);refine wpAny_newFunctionEnv_cells S.kind hkind λenv he s1 x=>?_
 subst he;refine⟨lim.keeps x.toInCall.keep,codeAny_func ?_⟩;obtain⟨t,ht,hq⟩:=hbody A outer s H vs Q E (hr.deeper _) hsp;have I:Inv (C2 CX P w K mg base N qual scope f cdv A outer s H E) [] (rN N vs) H s1:=yx S hr.hd e0 hl r x;refine wpAny_mono (ht [] s1 (rN N vs) H _ I hq) (λfl s' hs=>?_) λe s' hs=>hs
 have fin:∀ {σ':St} {H':Hp} {v:V} {u:Value},Inv (C2 CX P w K mg base N qual scope f cdv A outer s H E) [] σ' H' s'->bR v u->Q v H'->CE outer P w H s Q u s' :=
  λ{σ' H' v u} J rv q=>⟨v,H',J.os,J.bare,J.base,J.hok,rv,q⟩
 cases fl with
|ret u =>
  obtain⟨v,σ',H',J,rv,q⟩:=hs;exact fin J rv q
|next =>
  obtain⟨σ',H',J,q⟩:=hs;exact fin (v:=V.non) (u:=Value.none) J rfl q
|brk =>
  obtain⟨_,_,_,q⟩:=hs;exact False.elim q
|cont =>
  obtain⟨_,_,_,q⟩:=hs;exact False.elim q
section
variable {X:Cx}{x:Str}{p pos:Pos}{e:Expr}{es:List Expr}{t:TA}{id T:String}{r:List V->Hp->VK->Prop}
def tCB (r:List V->Hp->VK->Prop) (t:TA):TE:=λσ H Q=>t σ H λvs H1=>r vs H1 Q
theorem aI (hc:mw X (.builtin id) r) (hg:Gl X x) (hm:X.mg x=none) (hv:bootBuiltins x=some (.builtin id)) (ha:PA X (e :: es) t) (hn:x≠"__name__":=by decide) (hdb:(x == ("__debug__":Str))=false:=by decide)
 (he:starEach (e :: es) X.env=(false,eval e X.env) :: starEach es X.env:=by rfl) (hpl:(backTo pos (starEach es X.env)).any (·.1)=false:=by rfl):PE X (.Call (.Name x p) (e :: es) [] pos) (tCB r t):=by
 intro pins s σ H Q I h;refine wpAny_Call_Name_kw (m5 I hg hm hv ?_ hn hdb);exact PyProof.Rows.callWith_builtin1 (thn (ha pos pins s σ H _ I h) λus s1 ⟨vs,H1,I1,r1,q1⟩=>hc pins s1 σ H1 vs us Q I1 r1 q1) he hpl
theorem br (hc:mw X (.type T) r) (hg:Gl X x) (hm:X.mg x=none) (hv:bootBuiltins x=some (.type T)) (ha:PA X (e :: es) t) (hn:x≠"__name__":=by decide) (hdb:(x == ("__debug__":Str))=false:=by decide)
 (he:starEach (e :: es) X.env=(false,eval e X.env) :: starEach es X.env:=by rfl) (hpl:(backTo pos (starEach es X.env)).any (·.1)=false:=by rfl):PE X (.Call (.Name x p) (e :: es) [] pos) (tCB r t):=by
 intro pins s σ H Q I h;refine wpAny_Call_Name_kw (m5 I hg hm hv ?_ hn hdb);exact PyProof.Rows.callWith_type1 (thn (ha pos pins s σ H _ I h) λus s1 ⟨vs,H1,I1,r1,q1⟩=>hc pins s1 σ H1 vs us Q I1 r1 q1) he hpl
end
end L2
namespace HT
open PySem PyProof.Rows
section
open PySem.SeqAt
open PySem.AutoSeq1 (wpAny_loadPart')
open PySem.MeetsSeq PySem.MeetsSeq2 PySem.MeetsSeq3
end
section
variable {prog:Program}{w:World}{A:Around}{E:Value->Shared->Prop}{s:Shared}
theorem cat_tup {t b:Addr}{vs ws:List Value}{Q:Value->Shared->Prop}(ht:IsTup s.heap t vs.toArray) (hb:IsTup s.heap b ws.toArray) (hv:vs≠[])
 (h1:ws=[]->Q (.ref t) s) (h2:ws≠[]->Q (.ref s.heap.objs.size) { s with heap:=s.heap.push { cls:=.type "tuple",data:=.seq (vs++ws).toArray } })
 (hsz:vs.length+ws.length <= sizeLine):wpAny (model prog w) A (binaryOp .Add (.ref t) (.ref b)) Q E s:=by
 obtain⟨⟨cls,dd,data,sl⟩,ho,hc,n,hd⟩:=id ht;obtain⟨⟨cls2,dd2,data2,sl2⟩,ho2,hc2,n2,hd2⟩:=id hb;simp only at hc hd hc2 hd2;subst hc hd hc2 hd2;have e:vs.toArray++ws.toArray=(vs++ws).toArray:=by simp
 by_cases hw:ws=[]
 . exact concat_meets ⟨_,ho,rfl⟩ ⟨_,ho2,rfl⟩ noFill_tuple_add seq_tuple_add PySem.F.slot_tuple_add PySem.F.entry_tuple_add (PySem.F.args_tuple_add_2 _ _)
    (tuple_addW1 t b vs.toArray ws.toArray n n2 dd dd2 sl sl2 (by simpa using hv) (by simp[hw])) ⟨ho,ho2,h1 hw⟩
 . refine concat_meets ⟨_,ho,rfl⟩ ⟨_,ho2,rfl⟩ noFill_tuple_add seq_tuple_add PySem.F.slot_tuple_add PySem.F.entry_tuple_add (PySem.F.args_tuple_add_2 _ _)
    (tuple_addW2 t b vs.toArray ws.toArray n n2 dd dd2 sl sl2 (by simpa using hv) (by simpa using hw) (by rw[size_toArray,size_toArray];exact hsz)) ⟨ho,ho2,?_⟩
   rw[e];exact h2 hw
def sIx (n d:Nat):Option Int->Nat
|none=>d
|some v=>if v < 0 then (v+(n:Int)).toNat else min v.toNat n
theorem sIx_nat (n d k:Nat):sIx n d (some (k:Int))=min k n:=by
 show (if (k:Int) < 0 then ((k:Int)+(n:Int)).toNat else min (k:Int).toNat n)=min k n;rw[if_neg (by omega),toNat_natCast]
theorem F8 (n d:Nat) (hd:d <= n) (o:Option Int):sIx n d o <= n:=by
 cases o with
|none=>exact hd
|some v =>
  show (if v < 0 then (v+(n:Int)).toNat else min v.toNat n) <= n;by_cases hv:v < 0
  . rw[if_pos hv];omega
  . rw[if_neg hv];exact Nat.min_le_right _ _
theorem zB (v:Int) (n d:Nat):(if v < 0 then max (v+(n:Int)) 0 else min v (n:Int))=((sIx n d (some v):Nat):Int):=by
 show (if v < 0 then max (v+(n:Int)) 0 else min v (n:Int))=(((if v < 0 then (v+(n:Int)).toNat else min v.toNat n):Nat):Int)
 by_cases hv:v < 0
 . simp only[if_pos hv];omega
 . simp only[if_neg hv];omega
theorem wy (lo hi:Option Int) (n:Nat):Builtin.Slice.sliceAdjust lo hi 1 (n:Int)=(((sIx n 0 lo:Nat):Int),((sIx n n hi:Nat):Int)):=by
 have h1:¬ ((1:Int) < 0):=by omega
 unfold Builtin.Slice.sliceAdjust;simp only[h1,if_false];refine Prod.ext ?_ ?_
 . cases lo with
  |none=>rfl
  |some v=>exact zB v n 0
 . cases hi with
  |none=>rfl
  |some v=>exact zB v n n
theorem wZ (i j:Nat):Builtin.Slice.slicePlaces (i:Int) (j:Int) 1=j - i:=by
 unfold Builtin.Slice.slicePlaces;have h1:(1:Int) > 0:=by omega
 simp only[h1,if_true,Int.ediv_one];split<;>omega
theorem pX {v:Value}{o:Option Int}{Q:Option Int->Shared->Prop}(p:IsPart v o) (h:Q o s):wpAny (model prog w) A (Builtin.Slice.slicePartIndex v) Q E s:=by
 cases p with
|none=>exact slicePart_none h
|int i t=>exact slicePart_int h
theorem mC {sl:Addr}{vl vu:Value}{lo hi:Option Int}{n:Nat}{Q:Int × Int × Nat->Shared->Prop}(hs:s.heap.IsSliceOf sl vl vu .none) (pl:IsPart vl lo) (pu:IsPart vu hi)
 (h:Q (((sIx n 0 lo:Nat):Int),1,sIx n n hi - sIx n 0 lo) s):wpAny (model prog w) A (Builtin.Slice.sliceApplied (.ref sl) (pure (n:Int))) Q E s:=by
 obtain⟨os,hos,hcs,hds⟩:=id hs;unfold Builtin.Slice.sliceApplied Builtin.Slice.sliceFields;refine wpAny_bind (wpAny_bind (wpAny_field hos hds (x:=vl) rfl (wpAny_bind (wpAny_field hos hds (x:=vu) rfl (wpAny_bind (wpAny_field hos hds (x:=.none) rfl (wpAny_pure ?_)))))));refine wpAny_bind (slicePart_none ?_);show wpAny _ _ (if ((1:Int) == 0)=true then _ else _) _ _ s;rw[if_neg (by decide)];refine wpAny_bind (pX pl (wpAny_bind (pX pu (wpAny_bind (wpAny_pure ?_)))));show wpAny _ _ (match Builtin.Slice.sliceAdjust lo hi 1 (n:Int) with|(lo,hi)=>pure (lo,(1:Int),Builtin.Slice.slicePlaces lo hi 1)) _ _ s;rw[wy lo hi n];show wpAny _ _ (pure (((sIx n 0 lo:Nat):Int),(1:Int),Builtin.Slice.slicePlaces ((sIx n 0 lo:Nat):Int) ((sIx n n hi:Nat):Int) 1)) _ _ s;rw[wZ];exact wpAny_pure h
theorem Bb (xs:Array Value) (i k:Nat):((List.range k).filterMap λ(m:Nat)=>xs[((i:Int)+(m:Int) * 1).toNat]?).toArray=((xs.toList.drop i).take k).toArray:=by
 have e:(λ(m:Nat)=>xs[((i:Int)+(m:Int) * 1).toNat]?)=λm=>xs[i+m]?:=by
  funext m;have:((i:Int)+(m:Int) * 1).toNat=i+m:=by omega
  rw[this]
 rw[e];have:=pick_run xs i k;rw[List.filterMap_map]at this;have e2:((λx=>xs[x]?) ∘ λx=>i+x)=λm=>xs[i+m]?:=rfl
 rw[e2]at this;rw[this]
theorem getItem_tuple_cut {t sl:Addr}{items:Array Value}{vl vu:Value}{lo hi:Option Int}{Q:Value->Shared->Prop}(ht:IsTup s.heap t items) (hs:s.heap.IsSliceOf sl vl vu .none) (pl:IsPart vl lo) (pu:IsPart vu hi)
 (hw:¬ (sIx items.size 0 lo=0/\sIx items.size items.size hi=items.size))
 (h:Q (.ref s.heap.objs.size) { s with heap:=s.heap.push { cls:=.type "tuple",data:=.seq ((items.toList.drop (sIx items.size 0 lo)).take (sIx items.size items.size hi - sIx items.size 0 lo)).toArray } })
 (hsz:items.size <= sizeLine):wpAny (model prog w) A (getItem (.ref t) (.ref sl)) Q E s:=by
 have htake:sizeOk (.seq ((items.toList.drop (sIx items.size 0 lo)).take (sIx items.size items.size hi - sIx items.size 0 lo)).toArray):=by
  show ((items.toList.drop (sIx items.size 0 lo)).take (sIx items.size items.size hi - sIx items.size 0 lo)).toArray.size <= sizeLine;rw[size_toArray,length_take,length_drop,Array.length_toList];omega
 have hj:sIx items.size items.size hi <= items.size:=F8 _ _ (Nat.le_refl _) hi;obtain⟨os,hos,hcs,hds⟩:=id hs;have hTs:s.TypeIs (.ref sl) "slice":=⟨os,hos,hcs⟩
 unfold getItem
 try with_reducible refine wpAny_holding ?_
 first|refine wpAny_bind (wpAny_pure ?_)|skip
 refine wpAny_bind (wpAny_sequenceKey ht.typeIs (by decide) ?_);refine wpAny_bind (wpAny_callSpecial?_slot (name:=Str.ofString "__getitem__") ht.typeIs PyProof.Rows.slot_tuple_getitem
  (wpAny_call_entry PyProof.Rows.slot_tuple_getitem ht.typeIs entry_tuple_getitem ?_ (args_tuple_getitem _ _)))
 show wpAny _ _ (Builtin.Tuple.tupleItemsOf (.ref t) >>= _) _ _ s;refine wpAny_bind (tupleItemsOf_ ht ?_);refine wpAny_bind (wpAny_typeOf hTs ?_);rw[if_pos (by decide)];refine wpAny_bind (mC hs pl pu ?_);have hno:¬ ((((sIx items.size 0 lo:Nat):Int) == 0 && (1:Int) == 1 && (sIx items.size items.size hi - sIx items.size 0 lo) == items.size)=true):=by
  intro q;rw[and_eq_true,and_eq_true]at q;have q1:((sIx items.size 0 lo:Nat):Int)=0:=eq_of_beq q.1.1;have q2:sIx items.size items.size hi - sIx items.size 0 lo=items.size:=eq_of_beq q.2;exact hw ⟨by omega,by omega⟩
 show wpAny _ _ (if (((sIx items.size 0 lo:Nat):Int) == 0 && (1:Int) == 1 && (sIx items.size items.size hi - sIx items.size 0 lo) == items.size)=true then _ else _) _ _ s;rw[if_neg hno,Bb]
 first
 |exact wpAny_bind (m:=Builtin.Tuple.tupleExact _) (wpAny_newObj_type (wpAny_pure ⟨_,rfl,wpAny_pure h⟩) htake)
 |exact wpAny_bind (m:=Builtin.Tuple.tupleExact _) (wpAny_newObj_type (wpAny_bind (wpAny_pure (wpAny_pure ⟨_,rfl,wpAny_pure h⟩))) htake)
 |exact wpAny_bind (wpAny_bind (m:=Builtin.Tuple.tupleExact _) (wpAny_newObj_type (wpAny_pure (wpAny_pure ⟨_,rfl,wpAny_pure h⟩)) htake))
 |exact wpAny_bind (wpAny_bind (m:=Builtin.Tuple.tupleExact _) (wpAny_newObj_type (wpAny_pure ⟨_,rfl,wpAny_pure h⟩) htake))
end
end HT
namespace L2
open PySem PySem.Spec PyProof.Rows
abbrev TO:=St->Hp->(Option Int->Hp->Prop)->Prop
def PO (X:Cx) (e:Option Expr) (t:TO):Prop :=
 ∀ (pins:List (Addr × Obj)) (s:Shared) (σ:St) (H:Hp) (Q:Option Int->Hp->Prop),Inv X pins σ H s->t σ H Q ->
  wpAny (model X.prog X.w) X.A (evalPart e X.env) (λu s'=>∃ o H',Inv X pins σ H' s'/\IsPart u o/\Q o H') X.xe s
def Ef:TO:=λ_ H Q=>Q none H
def GP (t:TE):TO:=λσ H Q=>t σ H λx H1=>∃ i,x=.int i/\Q (some i) H1
theorem pN {ns:List Int}:∀ {us:List Value},bC (ns.map V.int) us->IntsAre us ns:=by
 induction ns with
|nil=>intro us r;rw[map_nil]at r;cases r;exact .nil
|cons n ns ih =>
  intro us r;rw[map_cons]at r;cases r with
 |cons r1 r2 =>
   obtain⟨t,e⟩:=r1;subst e;exact .cons n t (ih r2)
section
variable {X:Cx}{e:Expr}{te:TE}{lo hi:Option Expr}{tl th:TO}{pos p2:Pos}
theorem uI:PO X none Ef:=by
 intro pins s σ H Q I h;rw[evalPart_none];exact wpAny_pure ⟨none,H,I,.none,h⟩
theorem nk (h:PE X e te):PO X (some e) (GP te):=by
 intro pins s σ H Q I hw;rw[evalPart_some];refine thn (h pins s σ H _ I hw) λu s1 ⟨x,H1,I1,r1,q1⟩=>?_
 obtain⟨i,rfl,q⟩:=q1;obtain⟨t,rfl⟩:=r1;exact⟨some i,H1,I1,.int i t,q⟩
def SlR (X:Cx) (r:V->Option Int->Option Int->Hp->VK->Prop):Prop :=
 ∀ (pins:List (Addr × Obj)) (s:Shared) (σ:St) (H:Hp) (x:V) (v vl vu:Value) (lo hi:Option Int) (sl:Addr) (Q:VK),Inv X pins σ H s->bR x v->s.heap.IsSliceOf sl vl vu .none->IsPart vl lo->IsPart vu hi->r x lo hi H Q ->
  ∃ T id,typeLookup (.type T) "__getitem__"=pure (some (.builtin id))/\s.TypeIs v T/\wpAny (model X.prog X.w) X.A (getItem v (.ref sl)) (EP X pins σ Q) X.xe s
def tSl (r:V->Option Int->Option Int->Hp->VK->Prop) (te:TE) (tl th:TO):TE:=λσ H Q=>te σ H λx H1=>tl σ H1 λl H2=>th σ H2 λu H3=>r x l u H3 Q
theorem mK {r:V->Option Int->Option Int->Hp->VK->Prop}(hr:SlR X r) (he:PE X e te) (hl:PO X lo tl) (hu:PO X hi th):PE X (.Subscript e (.Slice lo hi none p2) pos) (tSl r te tl th):=by
 intro pins s σ H Q I h;refine Subscript_ (thn (he pins s σ H _ I h) λv s1 ⟨x,H1,I1,r1,q1⟩=>?_);refine wpAny_Slice (thn (hl pins s1 σ H1 _ I1 q1) λvl s2 ⟨l,H2,I2,pl,q2⟩=>thn (hu pins s2 σ H2 _ I2 q2) λvu s3 ⟨u,H3,I3,pu,q3⟩=>?_);rw[evalPart_none];refine wpAny_pure ?_;have I4:Inv X pins σ H3 { s3 with heap:=s3.heap.push { cls:=.type "slice",data:=.fields #[vl,vu,.none] } }:=I3.kept (t':=s3.toks) λb ob q=>Heap.get?_push_of_some _ q
 obtain⟨T,id,hT,ht,hg⟩:=hr pins { s3 with heap:=s3.heap.push { cls:=.type "slice",data:=.fields #[vl,vu,.none] } } σ H3 x v vl vu l u s3.heap.objs.size Q I4 r1 (Heap.IsSliceOf.new ..) pl pu q3;show wpAny (model X.prog X.w) X.A (subscriptTail e (.Slice lo hi none p2) v (.ref s3.heap.objs.size)) (EP X pins σ Q) X.xe { s3 with heap:=s3.heap.push { cls:=.type "slice",data:=.fields #[vl,vu,.none] } };exact tail_any (ops:=[.ref s3.heap.objs.size,v]) ht hT hg (by with_unfolding_all rfl)
def tf (xs:List V) (lo hi:Option Int):List V:=(xs.drop (HT.sIx xs.length 0 lo)).take (HT.sIx xs.length xs.length hi - HT.sIx xs.length 0 lo)
theorem nJ (xs:List V) (lo hi:Option Int):(tf xs lo hi).length <= xs.length:=by
 unfold tf;rw[length_take,length_drop];omega
def HP (K:PySem.W.Frag):V->Option Int->Option Int->Hp->VK->Prop:=λx lo hi H Q=>∃ a xs,x=.ref a/\SqT K H a xs /\
 ¬ (HT.sIx xs.length 0 lo=0/\HT.sIx xs.length xs.length hi=xs.length)/\∀ p,H p=none->Q (.ref p) (upd H p (.tup (tf xs lo hi)))
theorem C8:SlR X (HP X.K):=by
 intro pins s σ H x v vl vu lo hi sl Q I rx hs pl pu h;obtain⟨a,xs,rfl,hx,hw,q⟩:=h;cases rx;obtain⟨its,r,ht,hz⟩:=I.tuple hx;have hlen:its.toArray.size=xs.length:=by rw[size_toArray];exact r.length.symm
 refine⟨"tuple",_,PyProof.Rows.slot_tuple_getitem.lookup,ht.typeIs,?_⟩;refine HT.getItem_tuple_cut ht hs pl pu (by rw[hlen];exact hw) ?_ (by rw[hlen];exact hz);rw[hlen];refine⟨.ref s.heap.objs.size,_,I.laid (t':=s.toks) (o:=.tup (tf xs lo hi)) (λb ob q=>Heap.get?_push_of_some _ q) (Nat.le_refl _) ?_,rfl,q _ (I.hok.fresh (Nat.le_refl _))⟩;exact⟨Nat.le_trans (nJ xs lo hi) hz,_,(r.drop (HT.sIx xs.length 0 lo)).take (HT.sIx xs.length xs.length hi - HT.sIx xs.length 0 lo),IsTup.new _ _⟩
def Go (K:PySem.W.Frag):R2:=λx y H Q=>∃ a b xs ys,x=.ref a/\y=.ref b/\SqT K H a xs/\SqT K H b ys/\xs≠[]/\xs.length+ys.length <= sizeLine /\
 (ys=[]->Q (.ref a) H)/\(ys≠[]->∀ p,H p=none->Q (.ref p) (upd H p (.tup (xs++ys))))
theorem bC.nil_iff {xs:List V}{us:List Value}(r:bC xs us):us=[] ↔ xs=[]:=by
 cases r with
|nil=>simp
|cons _ _=>simp
theorem CP:OpR X (binaryOp .Add) (Go X.K):=by
 intro pins s σ H x y v u Q I rx ry h;obtain⟨a,b,xs,ys,rfl,rfl,ha,hb,hx,hz,q1,q2⟩:=h;cases rx;cases ry;obtain⟨its,r1,p1,_⟩:=I.tuple ha;obtain⟨its2,r2,p2,_⟩:=I.tuple hb;refine HT.cat_tup p1 p2 (λz=>hx (r1.nil_iff.mp z)) (λz=>⟨.ref a,H,I,rfl,q1 (r2.nil_iff.mp z)⟩) (λz=>?_) (by rw[<-r1.length,<-r2.length];exact hz);refine⟨.ref s.heap.objs.size,_,I.laid (t':=s.toks) (o:=.tup (xs++ys)) (λb ob q=>Heap.get?_push_of_some _ q) (Nat.le_refl _) ?_,rfl,q2 (λw=>z (r2.nil_iff.mpr w)) _ (I.hok.fresh (Nat.le_refl _))⟩;exact⟨by rw[List.length_append];exact hz,_,r1.append r2,IsTup.new _ _⟩
end
def ixN (n:Nat) (i:Int):Option Nat:=if 0 <= i then (if i < n then some i.toNat else none) else if -(n:Int) <= i then some (i+n).toNat else none
def atI {α:Type}(xs:List α) (i:Int):Option α:=(ixN xs.length i).bind λj=>xs[j]?
theorem zb {n:Nat}{i:Int}{j:Nat}(h:ixN n i=some j):seqIndex? i n=some j/\j < n/\-(n:Int) <= i/\i < n:=by
 unfold ixN at h;by_cases h0:0 <= i
 . rw[if_pos h0]at h;by_cases h1:i < n
   . rw[if_pos h1]at h;have e:i.toNat=j:=Option.some.inj h;exact⟨by rw[seqIndex_of h0 h1,e],by omega,by omega,h1⟩
   . rw[if_neg h1]at h;cases h
 . rw[if_neg h0]at h;by_cases h1:-(n:Int) <= i
   . rw[if_pos h1]at h;have e:(i+n).toNat=j:=Option.some.inj h;exact⟨by rw[seqIndex_neg (by omega) h1,e],by omega,h1,by omega⟩
   . rw[if_neg h1]at h;cases h
theorem zO {α:Type}{xs:List α}{i:Int}{v:α}(h:atI xs i=some v):∃ j,seqIndex? i xs.length=some j/\xs[j]?=some v/\j < xs.length/\-(xs.length:Int) <= i/\i < xs.length:=by
 unfold atI at h;cases e:ixN xs.length i with
|none=>rw[e]at h;cases h
|some j =>
  rw[e]at h;obtain⟨h1,h2,h3,h4⟩:=zb e;exact⟨j,h1,h,h2,h3,h4⟩
theorem DI {α:Type}{xs:List α}{j:Nat}{v:α}(h:xs[j]?=some v):atI xs (j:Int)=some v:=by
 have hj:j < xs.length:=(List.getElem?_eq_some_iff.mp h).1;have e:ixN xs.length (j:Int)=some j:=by
  unfold ixN;rw[if_pos (by omega),if_pos (by omega)];simp
 unfold atI;rw[e];exact h
def Ct (b:Expr):Prop:=∀ o i,subscripted b false o i=operate [o,i] (getItem o i)
def IxR (X:Cx) (r:R2):Prop :=
 ∀ (value slice:Expr) (pins:List (Addr × Obj)) (s:Shared) (σ:St) (H:Hp) (x y:V) (v u:Value) (Q:VK),Inv X pins σ H s->bR x v->bR y u->r x y H Q ->
  subscripted slice false v u=operate [v,u] (getItem v u)->wpAny (model X.prog X.w) X.A (subscriptTail value slice v u) (EP X pins σ Q) X.xe s
def MtR (X:Cx) (id:String) (r:V->List V->Hp->VK->Prop):Prop :=
 ∀ (pins:List (Addr × Obj)) (s:Shared) (σ:St) (H:Hp) (x:V) (xs:List V) (v:Value) (us:List Value) (Q:VK),Inv X pins σ H s->bR x v->bC xs us->r x xs H Q ->
  wpAny (model X.prog X.w) X.A (call (.builtin id) (v :: us)) (EP X pins σ Q) X.xe s
section
variable {X:Cx}{a b:Expr}{ta tb:TE}{pos:Pos}
theorem IxR.or {r r':R2}(h:IxR X r) (h':IxR X r'):IxR X (λx y H Q=>r x y H Q\/r' x y H Q):=by
 intro value slice pins s σ H x y v u Q I rx ry q hs;rcases q with q|q
 . exact h value slice pins s σ H x y v u Q I rx ry q hs
 . exact h' value slice pins s σ H x y v u Q I rx ry q hs
theorem ax {r:R2}(hr:IxR X r) (ha:PE X a ta) (hb:PE X b tb) (hs:Ct b):PE X (.Subscript a b pos) (tOp r ta tb):=by
 intro pins s σ H Q I h;exact Subscript_ (GT ha hb I h λv u s2 x y H2 I2 rx ry q=>hr a b pins s2 σ H2 x y v u Q I2 rx ry q (hs _ _))
def GY (K:PySem.W.Frag):R2:=λx y H Q=>∃ p xs i v,x=.ref p/\y=.int i/\SqL K H p xs/\atI xs i=some v/\Q v H
def GC (K:PySem.W.Frag):R2:=λx y H Q=>∃ p xs i v,x=.ref p/\y=.int i/\SqT K H p xs/\atI xs i=some v/\Q v H
theorem bo:IxR X (GY X.K):=by
 intro value slice pins s σ H x y v u Q I rx ry h hs;obtain⟨p,xs,i,z,rfl,rfl,hq,he,q⟩:=h;cases rx;obtain⟨t,rfl⟩:=ry;obtain⟨its,r,pl,hz⟩:=I.list hq;obtain⟨j,h1,h2,h3,h4,h5⟩:=zO he;obtain⟨w,ew,rw'⟩:=r.get h2;have hl:=r.length;have hn:=sC;have fin:EP X pins σ Q w s:=⟨z,H,I,rw',q⟩
 by_cases h0:0 <= i
 . have hj:i.toNat=j:=by
    rw[seqIndex_of h0 h5]at h1;exact Option.some.inj h1
   exact item_listR pl.isList h0 (by omega) (by rw[hj];simpa using ew) fin hs
 . have hj:(i+(its.toArray.size:Int)).toNat=j:=by
    rw[seqIndex_neg (by omega) h4]at h1;rw[size_toArray,<-hl];exact Option.some.inj h1
   exact subscriptTail_builtinR (x:=w) pl.isList.typeIs slot_list_getitem.lookup
    (wpAny_getItem_list_neg (Q:=λr s'=>r=w/\EP X pins σ Q r s') pl.isList (by omega) (by rw[size_toArray]<;>omega) (by omega) (by rw[hj];simpa using ew) ⟨rfl,fin⟩) hs
theorem ar:IxR X (GC X.K):=by
 intro value slice pins s σ H x y v u Q I rx ry h hs;obtain⟨p,xs,i,z,rfl,rfl,hq,he,q⟩:=h;cases rx;obtain⟨t,rfl⟩:=ry;obtain⟨its,r,pl,hz⟩:=I.tuple hq;obtain⟨j,h1,h2,h3,h4,h5⟩:=zO he;obtain⟨w,ew,rw'⟩:=r.get h2;have hl:=r.length;have hn:=sC;have fin:EP X pins σ Q w s:=⟨z,H,I,rw',q⟩
 exact subscriptTail_builtinR (x:=w) pl.typeIs slot_tuple_getitem.lookup
  (getItem_tuple (j:=j) (Q:=λr s'=>r=w/\EP X pins σ Q r s') pl (by omega) (by omega) (by rw[size_toArray,<-hl];exact h1) (by simpa using ew) ⟨rfl,fin⟩) hs
theorem wB (its:List Value) (n j:Nat) (u:Value):Obj.mapSeq (·.setIfInBounds j u) { cls:=.type "list",data:=.seq its.toArray n }={ cls:=.type "list",data:=.seq (its.set j u).toArray n }:=by
 simp[Obj.mapSeq]
theorem Inv.lst {pins:List (Addr × Obj)}{σ:St}{H:Hp}{s:Shared}{p:Addr}{xs:List V}(I:Inv X pins σ H s) (h:H p=some (.lst xs)) :
 ∃ (its:List Value) (n:Nat),bC xs its/\s.heap.get? p=some { cls:=.type "list",data:=.seq its.toArray n }/\xs.length <= sizeLine:=by
 obtain⟨z,its,n,r,e⟩:=I.hok p _ h;exact⟨its,n,r,e,z⟩
theorem Inv.lstUpd {pins:List (Addr × Obj)}{σ:St}{H:Hp}{s:Shared}{p:Addr}{xs ys:List V}{its its':List Value}{n n':Nat}{f:Obj->Obj}(I:Inv X pins σ H s) (h:H p=some (.lst xs))
 (ho:s.heap.get? p=some { cls:=.type "list",data:=.seq its.toArray n }) (hf:f { cls:=.type "list",data:=.seq its.toArray n }={ cls:=.type "list",data:=.seq its'.toArray n' }) (r:bC ys its') (hz:ys.length <= sizeLine) (t:Nat) :
 Inv X pins σ (upd H p (.lst ys)) { s with heap:=s.heap.update p f,toks:=t }:=by
 have e:(s.heap.update p f).get? p=some { cls:=.type "list",data:=.seq its'.toArray n' }:=by
  rw[Heap.get?_update_self f ho (by rw[hf]<;>rfl),hf]
 refine I.write (x:=p) (e:=p) (by rw[h];trivial) (.inl rfl) (λb u hb q=>(Heap.get?_update_other _ _ (Ne.symm hb)).trans q) ⟨_,e⟩ ?_;exact⟨hz,its',n',r,e⟩
def G9:V->V->V->Hp->(Hp->Prop)->Prop:=λo i v H Q=>∃ p xs k j,o=.ref p/\i=.int k/\H p=some (.lst xs)/\ixN xs.length k=some j/\Q (upd H p (.lst (xs.set j v)))
theorem ig:Hf X G9:=by
 intro pins s σ H o i v ov iv u Q I ro ri rv h;obtain⟨p,xs,k,j,rfl,rfl,hp,hj,q⟩:=h;cases ro;obtain⟨t,rfl⟩:=ri;obtain⟨its,n,r,ho,hz⟩:=I.lst hp;obtain⟨h1,h2,h3,h4⟩:=zb hj;have hl:=r.length;have hn:=sC;have I':Inv X pins σ (upd H p (.lst (xs.set j v))) { s with heap:=s.heap.update p (Obj.mapSeq (·.setIfInBounds j u)) } :=
  I.lstUpd hp ho (wB its n j u) (r.set rv j) (by rw[List.length_set];exact hz) s.toks
 by_cases h0:0 <= k
 . have hk:k.toNat=j:=by
    rw[seqIndex_of h0 h4]at h1;exact Option.some.inj h1
   exact ki_setAt ho h0 (by omega) (by rw[size_toArray,<-hl];exact h4) (by rw[hk];exact⟨_,I',q⟩)
 . have hk:(k+(its.toArray.size:Int)).toNat=j:=by
    rw[seqIndex_neg (by omega) h3]at h1;rw[size_toArray,<-hl];exact Option.some.inj h1
   exact ki_setBack ho (by omega) (by rw[size_toArray,<-hl];exact h3) (by omega) (by rw[hk];exact⟨_,I',q⟩)
theorem sO (lo hi:Option Int) (n:Nat):(sliceBounds lo hi none n).1=((HT.sIx n 0 lo:Nat):Int)/\(sliceBounds lo hi none n).2.1=((HT.sIx n n hi:Nat):Int)/\(sliceBounds lo hi none n).2.2=1:=by
 refine⟨?_,?_,rfl⟩
 . cases lo with
  |none=>simp[sliceBounds,HT.sIx]
  |some i =>
    simp only[sliceBounds,HT.sIx,getD_none,show (1:Int) > 0 by decide,if_true];by_cases h:i < 0
    . simp only[h,if_true]<;>omega
    . simp only[h,if_false]<;>omega
 . cases hi with
  |none=>simp[sliceBounds,HT.sIx]
  |some i =>
    simp only[sliceBounds,HT.sIx,getD_none,show (1:Int) > 0 by decide,if_true];by_cases h:i < 0
    . simp only[h,if_true]<;>omega
    . simp only[h,if_false]<;>omega
theorem rR (its:List Value) (lo hi:Option Int):slicePick its.toArray lo hi none=((its.drop (HT.sIx its.length 0 lo)).take (HT.sIx its.length its.length hi - HT.sIx its.length 0 lo)).toArray:=by
 obtain⟨h1,h2,h3⟩:=sO lo hi its.toArray.size;unfold slicePick;rw[h1,h2,h3];simp only[sliceRange_one,pick_run,size_toArray]<;>rfl
def I8 (K:PySem.W.Frag):V->Option Int->Option Int->Hp->VK->Prop:=λx lo hi H Q=>∃ a xs,x=.ref a/\SqL K H a xs/\∀ p,H p=none->Q (.ref p) (upd H p (.lst (tf xs lo hi)))
theorem yk:SlR X (I8 X.K):=by
 intro pins s σ H x v vl vu lo hi sl Q I rx hs pl pu h;obtain⟨a,xs,rfl,hx,q⟩:=h;cases rx;obtain⟨its,r,ht,hz⟩:=I.list hx;have hlen:=r.length;refine⟨"list",_,slot_list_getitem.lookup,ht.isList.typeIs,?_⟩;refine wpAny_getItem_list_slice ht.isList hs pl pu .none (by simp) ?_ (by rw[size_toArray]<;>omega);rw[rR,<-hlen];refine⟨.ref s.heap.objs.size,_,I.laid (t':=s.toks) (o:=.lst (tf xs lo hi)) (λb ob q=>Heap.get?_push_of_some _ q) (Nat.le_refl _) ?_,rfl,q _ (I.hok.fresh (Nat.le_refl _))⟩;exact⟨Nat.le_trans (nJ xs lo hi) hz,_,0,(r.drop (HT.sIx xs.length 0 lo)).take (HT.sIx xs.length xs.length hi - HT.sIx xs.length 0 lo),Heap.get?_push_size _ rfl⟩
def pD:V->Bool
|.non=>true
|.bl _=>true
|.int _=>true
|.str _=>true
|_=>false
def eqV:V->V->Bool
|.non,.non=>true
|.bl a,.bl b=>a == b
|.bl a,.int b=>(if a then 1 else 0) == b
|.int a,.bl b=>a == (if b then 1 else 0)
|.int a,.int b=>a == b
|.str a,.str b=>a == b
|_,_=>false
theorem EQ {A:Around}{s:Shared}{y x:V}{u v:Value}(ry:bR y u) (rx:bR x v) (fy:pD y=true) (fx:pD x=true):SeqAt.EqAt A s u v (eqV y x):=by
 cases y with
|non =>
  cases ry;cases x with
 |non=>cases rx;exact SeqAt.EqAt.same _
 |bl b=>cases rx;exact SeqAt.EqAt.none_bool b
 |int b=>obtain⟨t,rfl⟩:=rx;exact SeqAt.EqAt.none_int b t
 |str b=>obtain⟨t,rfl⟩:=rx;exact SeqAt.EqAt.none_str b t
 |_=>exact absurd (show false=true from fx) Bool.false_ne_true
|bl a =>
  cases ry;cases x with
 |non=>cases rx;exact SeqAt.EqAt.bool_none a
 |bl b=>cases rx;exact SeqAt.EqAt.bool_bool a b
 |int b=>obtain⟨t,rfl⟩:=rx;exact SeqAt.EqAt.bool_int a b t
 |str b=>obtain⟨t,rfl⟩:=rx;exact SeqAt.EqAt.bool_str a b t
 |_=>exact absurd (show false=true from fx) Bool.false_ne_true
|int a =>
  obtain⟨t',rfl⟩:=ry;cases x with
 |non=>cases rx;exact SeqAt.EqAt.int_none a t'
 |bl b=>cases rx;exact SeqAt.EqAt.int_bool a t' b
 |int b=>obtain⟨t,rfl⟩:=rx;exact SeqAt.EqAt.int_int a t' b t
 |str b=>obtain⟨t,rfl⟩:=rx;exact SeqAt.EqAt.int_str a t' b t
 |_=>exact absurd (show false=true from fx) Bool.false_ne_true
|str a =>
  obtain⟨t',rfl⟩:=ry;cases x with
 |non=>cases rx;exact SeqAt.EqAt.str_none a t'
 |bl b=>cases rx;exact SeqAt.EqAt.str_bool a t' b
 |int b=>obtain⟨t,rfl⟩:=rx;exact SeqAt.EqAt.str_int a t' b t
 |str b=>obtain⟨t,rfl⟩:=rx;exact SeqAt.EqAt.str_str a t' b t
 |_=>exact absurd (show false=true from fx) Bool.false_ne_true
|_=>exact absurd (show false=true from fy) Bool.false_ne_true
def eqU (x:V) (u:Value):Bool:=match u with
|.none=>eqV .non x
|.bool b=>eqV (.bl b) x
|.int i _=>eqV (.int i) x
|.str z _=>eqV (.str z) x
|_=>false
theorem Cj {x y:V}{u:Value}(r:bR y u) (f:pD y=true):eqU x u=eqV y x:=by
 cases y with
|non=>cases r;rfl
|bl b=>cases r;rfl
|int i=>obtain⟨t,rfl⟩:=r;rfl
|str z=>obtain⟨t,rfl⟩:=r;rfl
|_=>exact absurd (show false=true from f) Bool.false_ne_true
theorem nL {x:V}:∀ {xs:List V}{us:List Value},bC xs us->xs.all pD=true->us.any (eqU x)=xs.any λy=>eqV y x
|_,_,.nil,_=>rfl
|y :: xs,u :: us,.cons r t,f=>by
  rw[all_cons,and_eq_true]at f;rw[any_cons,any_cons,Cj r f.1,nL t f.2]
theorem kH {A:Around}{s:Shared}{x:V}{v:Value}(rx:bR x v) (fx:pD x=true):∀ {xs:List V}{us:List Value},bC xs us->xs.all pD=true->∀ u∈us,SeqAt.EqAt A s u v (eqU x u)
|_,_,.nil,_=>λu hu=>by cases hu
|y :: xs,u :: us,.cons r t,f=>λu' hu=>by
  rw[all_cons,and_eq_true]at f;rcases mem_cons.mp hu with rfl|hu
  . rw[Cj r f.1];exact EQ r rx f.1 fx
  . exact kH rx fx t f.2 u' hu
def inV (x:V) (xs:List V):Bool:=xs.any λy=>eqV y x
def rIn (K:PySem.W.Frag) (neg:Bool):R2:=λx y H Q=>∃ p xs,y=.ref p/\(SqL K H p xs\/SqT K H p xs)/\pD x=true/\xs.all pD=true/\Q (.bl (if neg then !inV x xs else inV x xs)) H
theorem eR:OpR X (compareOp .In) (rIn X.K false):=by
 intro pins s σ H x y v u Q I rx ry h;obtain⟨p,xs,rfl,hq,fx,fs,q⟩:=h;cases ry;rcases hq with hq|hq
 . obtain⟨its,r,pl,hz⟩:=I.list hq;refine SeqAt.in_listAt (eqU x) pl.isList (λw hw=>kH rx fx r fs w (by simpa using hw)) ⟨.bl _,H,I,rfl,?_⟩;rw[show its.toArray.any (eqU x)=its.any (eqU x) by simp,nL r fs];exact q
 . obtain⟨its,r,pl,hz⟩:=I.tuple hq;refine SeqAt.in_tupleAt (eqU x) pl (λw hw=>kH rx fx r fs w (by simpa using hw)) ⟨.bl _,H,I,rfl,?_⟩;rw[show its.toArray.any (eqU x)=its.any (eqU x) by simp,nL r fs];exact q
theorem dG:OpR X (compareOp .NotIn) (rIn X.K true):=by
 intro pins s σ H x y v u Q I rx ry h;obtain⟨p,xs,rfl,hq,fx,fs,q⟩:=h;cases ry;rcases hq with hq|hq
 . obtain⟨its,r,pl,hz⟩:=I.list hq;refine SeqAt.notIn_listAt (eqU x) pl.isList (λw hw=>kH rx fx r fs w (by simpa using hw)) ⟨.bl _,H,I,rfl,?_⟩;rw[show its.toArray.any (eqU x)=its.any (eqU x) by simp,nL r fs];exact q
 . obtain⟨its,r,pl,hz⟩:=I.tuple hq;refine SeqAt.notIn_tupleAt (eqU x) pl (λw hw=>kH rx fx r fs w (by simpa using hw)) ⟨.bl _,H,I,rfl,?_⟩;rw[show its.toArray.any (eqU x)=its.any (eqU x) by simp,nL r fs];exact q
theorem bq:mw X (.builtin "len") (λxs H Q=>∃ p ys,xs=[.ref p]/\(SqL X.K H p ys\/SqT X.K H p ys)/\Q (.int ys.length) H):=by
 intro pins s σ H xs us Q I r h;obtain⟨p,ys,rfl,hq,q⟩:=h;obtain⟨u,rfl,rx⟩:=mv r;cases rx;have hn:=sC;rcases hq with hq|hq
 . obtain⟨its,r',pl,hz⟩:=I.list hq;have hlen:=r'.length;exact Calls.call_len_list pl.isList (by simp only[size_toArray]<;>omega) ⟨.int ys.length,H,I.tok _,⟨s.toks+1,by rw[size_toArray,hlen]⟩,q⟩
 . obtain⟨its,r',pl,hz⟩:=I.tuple hq;have hlen:=r'.length;exact len_tuple pl (by simp only[size_toArray]<;>omega) ⟨.int ys.length,H,I.tok _,⟨s.toks+1,by rw[size_toArray,hlen]⟩,q⟩
theorem je:mw X (.type "list") (λxs H Q=>∃ p ys,xs=[.ref p]/\(SqL X.K H p ys\/SqT X.K H p ys)/\∀ l,H l=none->Q (.ref l) (upd H l (.lst ys))):=by
 intro pins s σ H xs us Q I r h;obtain⟨p,ys,rfl,hq,q⟩:=h;obtain⟨u,rfl,rx⟩:=mv r;cases rx;have fin:∀ (its:List Value),bC ys its->ys.length <= sizeLine->∀ (h':Heap) (c':Nat),(∀ b o',s.heap.get? b=some o'->h'.get? b=some o') ->
  h'.get? s.heap.objs.size=some { cls:=.type "list",dict:=none,data:=.seq its.toArray c',slots:=#[] }->EP X pins σ Q (.ref s.heap.objs.size) { s with heap:=h' }:=λits r' hz h' c' kp e =>
  ⟨.ref s.heap.objs.size,_,I.laid (t':=s.toks) kp (Nat.le_refl _) (show cT X.prog X.w _ h' _ (.lst ys) from ⟨hz,its,c',r',e⟩),rfl,q _ (I.hok.fresh (Nat.le_refl _))⟩
 rcases hq with hq|hq
 . obtain⟨its,r',pl,hz⟩:=I.list hq;have hlen:=r'.length;obtain⟨o,ho,hc,n,hd⟩:=pl.isList;exact call_list_seq p (.inl rfl) ho hc hd (λh' c' kp e=>fin its r' hz h' c' kp e) (by simp only[size_toArray]<;>omega)
 . obtain⟨its,r',pl,hz⟩:=I.tuple hq;have hlen:=r'.length;obtain⟨o,ho,hc,n,hd⟩:=pl;exact call_list_seq p (.inr rfl) ho hc hd (λh' c' kp e=>fin its r' hz h' c' kp e) (by simp only[size_toArray]<;>omega)
theorem bz:mw X (.type "tuple") (λxs H Q=>∃ p ys,xs=[.ref p]/\((SqL X.K H p ys/\∀ l,H l=none->Q (.ref l) (upd H l (.tup ys)))\/(SqT X.K H p ys/\Q (.ref p) H))):=by
 intro pins s σ H xs us Q I r h;obtain⟨p,ys,rfl,h⟩:=h;obtain⟨u,rfl,rx⟩:=mv r;cases rx;rcases h with⟨hq,q⟩|⟨hq,q⟩
 . obtain⟨its,r',pl,hz⟩:=I.list hq;have hlen:=r'.length;refine call_tuple_list pl.isList (λh' kp=>?_) (by simp only[size_toArray]<;>omega);have I1:Inv X pins σ H { s with heap:=h' }:=I.kept (t':=s.toks) kp;have I2:Inv X pins σ (upd H h'.objs.size (.tup ys)) { s with heap:=h'.push { cls:=.type "tuple",data:=.seq its.toArray } } :=
    I1.laid (t':=s.toks) (λb o e=>Heap.get?_push_of_some _ e) (Nat.le_refl _) (show cT X.prog X.w _ _ _ (.tup ys) from ⟨hz,its,r',IsTup.new _ _⟩)
   exact⟨.ref h'.objs.size,_,I2,rfl,q _ (I1.hok.fresh (Nat.le_refl _))⟩
 . obtain⟨its,r',pl,hz⟩:=I.tuple hq;exact call_tuple_same pl ⟨.ref p,H,I,rfl,q⟩
def tyV (K:PySem.W.Frag) (T:String) (x:V) (H:Hp):Prop:=match x with
|.str _=>T="str"
|.int _=>T="int"
|.ref p=>(T="list"/\∃ xs,SqL K H p xs)\/(T="tuple"/\∃ o,K.lookup p=some o/\o.cls=.type "tuple"/\o.dict=none) \/
  (T="dict"/\((∃ kvs,H p=some (.dK kvs))\/∃ kvs,H p=some (.dT kvs)))\/(T="set"/\∃ S n,H p=some (.set S n))
|_=>False
theorem ER {pins:List (Addr × Obj)}{σ:St}{H:Hp}{s:Shared}{T:String}{x:V}{v:Value}(I:Inv X pins σ H s) (r:bR x v) (ty:tyV X.K T x H) :
 s.TypeIs v T/\∀ a,v=.ref a->∃ ob,s.heap.get? a=some ob/\ob.dict=none:=by
 cases x with
|str z =>
  obtain⟨t,rfl⟩:=r;cases (show T="str" from ty);exact⟨typeIs_str s z t,λ_ e=>nomatch e⟩
|int i =>
  obtain⟨t,rfl⟩:=r;cases (show T="int" from ty);exact⟨typeIs_int s i t,λ_ e=>nomatch e⟩
|ref p =>
  cases r;rcases ty with⟨rfl,xs,hq⟩|⟨rfl,o,hk,hc,hd⟩|⟨rfl,hk⟩|⟨rfl,S,n,hk⟩
  . obtain⟨its,_,pl,_⟩:=I.list hq;refine⟨pl.isList.typeIs,λa e=>?_⟩;cases e;obtain⟨o,n,e,c,hd,_⟩:=pl;exact⟨o,e,hd⟩
  . refine⟨⟨o,I.kIn p o hk,hc⟩,λa e=>?_⟩;cases e;exact⟨o,I.kIn _ o hk,hd⟩
  . have z:∃ o,s.heap.get? p=some o/\o.ExactDict:=by
     rcases hk with⟨kvs,hk⟩|⟨kvs,hk⟩
     . obtain⟨_,_,_,_,o,_,_,e,ex,_⟩:=I.hok p _ hk;exact⟨o,e,ex⟩
     . obtain⟨_,_,_,_,o,_,_,e,ex,_⟩:=I.hok p _ hk;exact⟨o,e,ex⟩
    obtain⟨o,e,ex⟩:=z;refine⟨⟨o,e,ex.1⟩,λa e2=>?_⟩;cases e2;exact⟨o,e,ex.2.1⟩
  . obtain⟨o,_,_,_,e,ex,_⟩:=I.hok p _ hk;refine⟨⟨o,e,ex.1⟩,λa e2=>?_⟩;cases e2;exact⟨o,e,ex.2.1⟩
|_=>exact False.elim ty
def tBM (K:PySem.W.Frag) (T:String) (r:V->List V->Hp->VK->Prop) (to:TE) (t:TA):TE:=λσ H Q=>to σ H λx H1=>tyV K T x H1/\t σ H1 λxs H2=>r x xs H2 Q
variable {o e:Expr}{es:List Expr}{to:TE}{t:TA}{name:Str}{apos cpos:Pos}{T id:String}{r:V->List V->Hp->VK->Prop}
theorem lO (pa:PlainAttrs T) (slot:Slot T name id) (hty:typeOf (.builtin id)=pure (.type "method_descriptor")) (hm:MtR X id r) (ho:PE X o to) (ha:PA X (e :: es) t)
 (hbase:attributeBase o name X.env (eval o X.env)=eval o X.env:=by rfl)
 (hfew:((backTo cpos (starEach (e :: es) X.env)).all (λx=>!x.1) && (backToKw cpos (keywordEach [] X.env)).all (λx=>x.1.isSome)
  && decide ((e :: es).length+([]:List Keyword).length+(if ([]:List Keyword).isEmpty then 0 else 1) < 30))=true:=by rfl)
 (hline:(apos.endLine == cpos.line)=true:=by rfl) (hs:starEach (e :: es) X.env=(false,eval e X.env) :: starEach es X.env:=by rfl) (hplain:(backTo cpos (starEach es X.env)).any (·.1)=false:=by rfl) :
 PE X (.Call (.Attribute o name apos) (e :: es) [] cpos) (tBM X.K T r to t):=by
 intro pins s σ H Q I h;refine wpAny_Call_method_late hbase hfew hline rfl (thn (ho pins s σ H _ I h) λv s1 ⟨x,H1,I1,r1,ty,q1⟩=>?_);obtain⟨h1,h2⟩:=ER I1 r1 ty;refine⟨T,id,pa,slot,hty,h1,h2,?_⟩;have hA:=ha cpos pins s1 σ H1 _ I1 q1;rw[hs]at hA |-;refine Calls.callWith_builtin (by show (false || (backTo cpos (starEach es X.env)).any (·.1))=false;rw[hplain]<;>rfl) (Calls.evalArgs_plain ?_);exact thn hA λus s2 ⟨vs,H2,I2,r2,q2⟩=>hm pins s2 σ H2 x vs v us Q I2 r1 r2 q2
end
def MtM (X:Cx) (id:String) (r:V->List V->Hp->VK->Prop):Prop :=
 ∀ (pins:List (Addr × Obj)) (s:Shared) (σ:St) (H:Hp) (x:V) (xs:List V) (v:Value) (us:List Value) (Q:VK),Inv X pins σ H s->bR x v->bC xs us->r x xs H Q ->
  wpAny (model X.prog X.w) X.A (call (.builtin id) (v :: us)) (EP X pins σ Q) X.xe s
theorem bC.one:∀ {x:V}{us:List Value},bC [x] us->∃ u,us=[u]/\bR x u
|_,_,.cons r .nil=>⟨_,rfl,r⟩
theorem bC.zero:∀ {us:List Value},bC [] us->us=[]
|_,.nil=>rfl
theorem bC.eraseIdx:∀ {xs:List V}{us:List Value}(i:Nat),bC xs us->bC (xs.eraseIdx i) (us.eraseIdx i)
|_,_,_,.nil=>.nil
|_,_,0,.cons _ t=>t
|_,_,i+1,.cons r t=>.cons r (bC.eraseIdx i t)
theorem sD {α:Type}:∀ (l:List α) (i:Nat),(l.eraseIdx i).length <= l.length
|[],_=>Nat.le_refl _
|_ :: _,0=>le_succ _
|_ :: r,i+1=>Nat.succ_le_succ (sD r i)
section
variable {X:Cx}{pins:List (Addr × Obj)}{σ:St}{H:Hp}{s:Shared}{l b:Addr}{xs ys zs:List V}
theorem Inv.lset {its its':List Value}{n:Nat}{f:Array Value->Array Value}{t':Nat}(I:Inv X pins σ H s) (hH:H l=some (.lst xs))
 (e:s.heap.get? l=some { cls:=.type "list",data:=.seq its.toArray n }) (hf:f its.toArray=its'.toArray) (hv:bC ys its') (hz:ys.length <= sizeLine) :
 Inv X pins σ (upd H l (.lst ys)) { s with heap:=s.heap.update l (Obj.mapSeq f),toks:=t' }:=by
 have q:=PySem.IsL.update e f;rw[hf]at q;refine I.write (x:=l) (e:=l) (by rw[hH];exact trivial) (.inl rfl) (λb' u hb hu=>(Heap.get?_update_other s.heap (Obj.mapSeq f) (Ne.symm hb)).trans hu) ⟨_,q⟩ ?_;exact⟨hz,its',_,hv,q⟩
theorem Inv.lnew {its:List Value}{t':Nat}(I:Inv X pins σ H s) (hv:bC ys its) (hz:ys.length <= sizeLine) :
 Inv X pins σ (upd H s.heap.objs.size (.lst ys)) { s with heap:=s.heap.push { cls:=.type "list",data:=.seq its.toArray },toks:=t' } :=
 I.laid (λ_ _ q=>Heap.get?_push_of_some _ q) (Nat.le_refl _) ⟨hz,its,0,hv,Heap.get?_push_size _ rfl⟩
theorem Inv.fresh (I:Inv X pins σ H s):H s.heap.objs.size=none:=I.hok.fresh (Nat.le_refl _)
theorem Inv.lstM (I:Inv X pins σ H s) (hH:H l=some (.lst xs)):xs.length <= sizeLine/\∃ (its:List Value) (n:Nat),bC xs its/\xs.length=its.length/\s.heap.get? l=some { cls:=.type "list",data:=.seq its.toArray n }:=by
 obtain⟨z,its,n,r,e⟩:=I.hok l _ hH;exact⟨z,its,n,r,r.length,e⟩
end
section
variable {X:Cx}
def D4:V->List V->Hp->VK->Prop:=λx vs H Q=>∃ l xs y,x=.ref l/\vs=[y]/\H l=some (.lst xs)/\xs.length < sizeLine/\Q .non (upd H l (.lst (xs++[y])))
theorem cZ:MtM X "list.append" D4:=by
 intro pins s σ H x vs v us Q I rx rv h;obtain⟨l,xs,y,rfl,rfl,hH,hz,q⟩:=h;cases rx;obtain⟨u,rfl,ru⟩:=rv.one;obtain⟨z,its,n,r,hl,e⟩:=I.lstM hH;refine call_meets F.slot_list_append ⟨_,e,rfl⟩ F.entry_list_append (F.args_list_append_2 _ _) (PySem.list_append l its.toArray n u (by rw[size_toArray];omega)) ⟨e,?_⟩;refine⟨.non,_,I.lset (its':=its++[u]) hH e (by simp) (r.append (.cons ru .nil)) ?_,rfl,q⟩;rw[List.length_append,List.length_singleton];omega
def GN:V->List V->Hp->VK->Prop:=λx vs H Q=>∃ l b xs zs,x=.ref l/\vs=[.ref b]/\H l=some (.lst xs)/\H b=some (.lst zs)/\xs.length+zs.length <= sizeLine/\Q .non (upd H l (.lst (xs++zs)))
def FI:V->List V->Hp->VK->Prop:=λx vs H Q=>∃ l xs i k y,x=.ref l/\vs=[.int i]/\H l=some (.lst xs)/\-(2 ^ 63) <= i/\i < 2 ^ 63/\seqIndex? i xs.length=some k/\xs[k]?=some y/\Q y (upd H l (.lst (xs.eraseIdx k)))
theorem BF:MtM X "list.pop" FI:=by
 intro pins s σ H x vs v us Q I rx rv h;obtain⟨l,xs,i,k,y,rfl,rfl,hH,h1,h2,hk,hy,q⟩:=h;cases rx;obtain⟨u,rfl,ru⟩:=rv.one;obtain⟨t,rfl⟩:=ru;obtain⟨z,its,n,r,hl,e⟩:=I.lstM hH;obtain⟨w,hw,rw'⟩:=r.get hy;refine call_meets F.slot_list_pop ⟨_,e,rfl⟩ F.entry_list_pop (F.args_list_pop_2 _ _)
  (MeetsSeq.list_pop_at l its.toArray n i t k w (fitsIndex_both h1 h2) (by rw[size_toArray,<-hl];exact hk) (by rw[<-Array.getElem?_toList];exact hw) (by rw[size_toArray];omega)) ⟨e,?_⟩
 refine⟨y,_,I.lset (its':=its.eraseIdx k) hH e ?_ (r.eraseIdx k) ?_,rw',q⟩
 . show its.toArray.eraseIdxIfInBounds k=(its.eraseIdx k).toArray;rw[List.eraseIdxIfInBounds_toArray]
 . have:=sD xs k;omega
def Hz:R2:=λx y H Q=>∃ l b xs zs,x=.ref l/\y=.ref b/\H l=some (.lst xs)/\H b=some (.lst zs)/\xs.length+zs.length <= sizeLine/\∀ p,H p=none->Q (.ref p) (upd H p (.lst (xs++zs)))
theorem EJ:OpR X (binaryOp .Add) Hz:=by
 intro pins s σ H x y v u Q I rx ry h;obtain⟨l,b,xs,zs,rfl,rfl,hH,hB,hz,q⟩:=h;cases rx;cases ry;obtain⟨z,its,n,r,hl,e⟩:=I.lstM hH;obtain⟨z2,its2,n2,r2,hl2,e2⟩:=I.lstM hB;refine PySem.P.add_list e e2 ?_ (by rw[size_toArray,size_toArray];omega);have ea:its.toArray++its2.toArray=(its++its2).toArray:=by simp
 rw[ea];exact⟨.ref _,_,I.lnew (t':=s.toks) (r.append r2) (by rw[List.length_append];omega),rfl,q _ I.fresh⟩
end
section
variable {prog:Program}{w:World}{A:Around}{E:Value->Shared->Prop}{s:Shared}
set_option maxRecDepth 100000 in
end
section
variable {X:Cx}
end
section
variable {κ:Type} [DecidableEq κ]
def oG (kvs:List (κ × V)) (k:κ):Option V:=(kvs.find? λkv=>decide (kv.1=k)).map (·.2)
def rg (kvs:List (κ × V)) (k:κ) (v:V):List (κ × V) :=
 if (kvs.any λkv=>decide (kv.1=k))=true then kvs.map (λkv=>if kv.1=k then (kv.1,v) else kv) else kvs++[(k,v)]
def tR (kvs:List (κ × V)) (k:κ):List (κ × V):=kvs.filter λkv=>decide (kv.1≠k)
theorem kE {p:κ × V}{r:List (κ × V)}{k:κ}(e:p.1=k):oG (p :: r) k=some p.2:=by simp[oG,find?_cons,e]
theorem kD {p:κ × V}{r:List (κ × V)}{k:κ}(e:¬ p.1=k):oG (p :: r) k=oG r k:=by simp[oG,find?_cons,e]
theorem mP (k:κ):∀ kvs:List (κ × V),(kvs.any λkv=>decide (kv.1=k))=(oG kvs k).isSome
|[]=>rfl
|p :: r=>by
  rw[any_cons];by_cases e:p.1=k
  . simp only[kE e,decide_eq_true e,Bool.true_or,isSome_some]
  . rw[kD e,decide_eq_false e,Bool.false_or];exact mP k r
theorem n6 (kvs:List (κ × V)) (k:κ) (v:V):(rg kvs k v).length <= kvs.length+1:=by
 unfold rg;split
 . rw[length_map];omega
 . rw[List.length_append,length_cons,List.length_nil];omega
theorem rX.isSome_eq {o:Option V}{u:Option Value}(r:rX o u):o.isSome=u.isSome:=by
 cases o with
|none=>cases u with
 |none=>rfl
 |some _=>exact(show False from r).elim
|some _=>cases u with
 |none=>exact(show False from r).elim
 |some _=>rfl
theorem KV.val {kvs:List (κ × V)}{vs:List (κ × Value)}(r:KV kvs vs) (k:κ):rX (oG kvs k) (valueAt vs k):=by
 unfold KV at r
 induction r with
|nil=>exact True.intro
|@cons p q ps qs h t ih =>
  obtain⟨h1,h2⟩:=h;by_cases e:p.1=k
  . have e':q.1=k:=h1.symm.trans e;have b:valueAt (q :: qs) k=some q.2:=by simp[valueAt,find?_cons,e']
    rw[kE e,b];exact h2
  . have e':¬ q.1=k:=λz=>e (h1.trans z)
    have b:valueAt (q :: qs) k=valueAt qs k:=by simp[valueAt,find?_cons,e']
    rw[kD e,b];exact ih
theorem KV.any {kvs:List (κ × V)}{vs:List (κ × Value)}(r:KV kvs vs) (k:κ):(kvs.any λkv=>decide (kv.1=k))=vs.any λkv=>decide (kv.1=k):=by
 unfold KV at r
 induction r with
|nil=>rfl
|cons h t ih=>rw[any_cons,any_cons,ih,h.1]
theorem KV.repl {kvs:List (κ × V)}{vs:List (κ × Value)}(r:KV kvs vs) (k:κ) {y:V}{u:Value}(ry:bR y u) :
 KV (kvs.map λkv=>if kv.1=k then (kv.1,y) else kv) (vs.map λkv=>if kv.1=k then (kv.1,u) else kv):=by
 unfold KV at r |-
 induction r with
|nil=>exact .nil
|@cons p q ps qs h t ih =>
  rw[map_cons,map_cons];refine .cons ?_ ih;obtain⟨h1,h2⟩:=h;by_cases e:p.1=k
  . rw[if_pos e,if_pos (h1.symm.trans e)];exact⟨h1,ry⟩
  . rw[if_neg e,if_neg (λz=>e (h1.trans z))];exact⟨h1,h2⟩
theorem KV.put {kvs:List (κ × V)}{vs:List (κ × Value)}(r:KV kvs vs) (k:κ) {y:V}{u:Value}(ry:bR y u):KV (rg kvs k y) (stored vs k u):=by
 unfold rg stored;rw[r.any k];by_cases e:(vs.any λkv=>decide (kv.1=k))=true
 . rw[if_pos e,if_pos e];exact r.repl k ry
 . rw[if_neg e,if_neg e];exact Paired.snoc r ⟨rfl,ry⟩
theorem KV.drop {kvs:List (κ × V)}{vs:List (κ × Value)}(r:KV kvs vs) (k:κ):KV (tR kvs k) (without vs k):=by
 unfold KV at r |-;unfold tR without
 induction r with
|nil=>exact .nil
|@cons p q ps qs h t ih =>
  obtain⟨h1,h2⟩:=h;rw[filter_cons,filter_cons];by_cases e:p.1=k
  . have a:¬ decide (p.1≠k)=true:=by simp[e]
    have b:¬ decide (q.1≠k)=true:=by simp[h1.symm.trans e]
    rw[if_neg a,if_neg b];exact ih
  . have e':¬ q.1=k:=λz=>e (h1.trans z)
    have a:decide (p.1≠k)=true:=by simp[e]
    have b:decide (q.1≠k)=true:=by simp[e']
    rw[if_pos a,if_pos b];exact .cons ⟨h1,h2⟩ ih
theorem KV.keys {kvs:List (κ × V)}{vs:List (κ × Value)}(r:KV kvs vs):kvs.map (·.1)=vs.map (·.1):=by
 unfold KV at r
 induction r with
|nil=>rfl
|cons h t ih=>rw[map_cons,map_cons,ih,h.1]
theorem KV.length {kvs:List (κ × V)}{vs:List (κ × Value)}(r:KV kvs vs):kvs.length=vs.length:=Paired.length r
theorem AU (kvs:List (κ × V)) (k:κ):(tR kvs k).length <= kvs.length:=length_filter_le _ _
end
theorem xn {P:Program}{w:World}{k:Key}{u:Value}(r:bR (kV k) u):(bv P w).is k u=true:=by
 cases k with
|inl i=>obtain⟨t,e⟩:=(show ∃ t,u=Value.int i t from r);subst e;exact uB P w i t
|inr x=>obtain⟨t,e⟩:=(show ∃ t,u=Value.str x t from r);subst e;exact uZ P w x t
theorem sW {P:Program}{w:World}:∀ {ks:List Key}{us:List Value},bC (ks.map kV) us->ItemsAre (bv P w) ks us
|[],_,r=>by rw[map_nil]at r;cases r;exact .nil
|k :: ks,_,r=>by
  rw[map_cons]at r;cases r with
 |cons h t=>exact .cons (xn h) (sW t)
abbrev KT (H:Hp):List (List Key × V)->List (List Key × Addr × Value)->Prop:=Paired λp q=>p.1=q.1/\H q.2.1=some (.tup (p.1.map kV))/\bR p.2 q.2.2
theorem KT.val {H:Hp}{kvs:List (List Key × V)}{xs:List (List Key × Addr × Value)}(r:KT H kvs xs) (k:List Key):rX (oG kvs k) ((atKey xs k).map (·.2)):=by
 induction r with
|nil=>exact True.intro
|@cons p q ps qs h t ih =>
  obtain⟨h1,_,h2⟩:=h;by_cases e:p.1=k
  . have e':q.1=k:=h1.symm.trans e;have b:atKey (q :: qs) k=some q.2:=by simp[atKey,find?_cons,e']
    rw[kE e,b];exact h2
  . have e':¬ q.1=k:=λz=>e (h1.trans z)
    have b:atKey (q :: qs) k=atKey qs k:=by simp[atKey,find?_cons,e']
    rw[kD e,b];exact ih
theorem KT.repl {H:Hp}{kvs:List (List Key × V)}{xs:List (List Key × Addr × Value)}(r:KT H kvs xs) (k:List Key) {y:V}{u:Value}(ry:bR y u) :
 KT H (kvs.map λkv=>if kv.1=k then (kv.1,y) else kv) (xs.map (putAt k u)):=by
 induction r with
|nil=>exact .nil
|@cons p q ps qs h t ih =>
  rw[map_cons,map_cons];refine .cons ?_ ih;obtain⟨h1,h2,h3⟩:=h;unfold putAt;by_cases e:p.1=k
  . rw[if_pos e,if_pos (h1.symm.trans e)];exact⟨h1,h2,ry⟩
  . rw[if_neg e,if_neg (λz=>e (h1.trans z))];exact⟨h1,h2,h3⟩
theorem KT.put {H:Hp}{kvs:List (List Key × V)}{xs:List (List Key × Addr × Value)}(r:KT H kvs xs) (k:List Key) {b:Addr}{y:V}{u:Value}(hb:H b=some (.tup (k.map kV))) (ry:bR y u) :
 KT H (rg kvs k y) (storedH xs k b u):=by
 have e:(kvs.any λkv=>decide (kv.1=k))=(atKey xs k).isSome:=by
  rw[mP,(r.val k).isSome_eq,isSome_map]
 unfold rg storedH;rw[e];by_cases q:(atKey xs k).isSome=true
 . rw[if_pos q,if_pos q];exact r.repl k ry
 . rw[if_neg q,if_neg q];exact Paired.snoc r ⟨rfl,hb,ry⟩
theorem KT.keeps {H H':Hp}{kvs:List (List Key × V)}{xs:List (List Key × Addr × Value)}(r:KT H kvs xs) (ht:∀ b ys,H b=some (.tup ys)->H' b=some (.tup ys)):KT H' kvs xs :=
 Paired.mapP r λ_ _ z=>⟨z.1,ht _ _ z.2.1,z.2.2⟩
section
variable {P:Program}{w:World}{H:Hp}{h:Heap}{a:Addr}
theorem Fp {u:HO}(ok:HOk P w H h) (e:Rd H a u):cT P w H h a u:=e.ok ok
theorem zQ {kvs:List (Key × V)}(ok:HOk P w H h) (e:Rd H a (.dK kvs)):kvs.length <= sizeLine/\(a == sysModules)=false/\∃ vs,KV kvs vs/\h.DictOf (bv P w) a vs :=
 show cT P w H h a (.dK kvs) from Fp ok e
theorem A1 {kvs:List (Key × V)}(ok:HOk P w H h) (e:H a=some (.dK kvs)):kvs.length <= sizeLine/\(a == sysModules)=false/\∃ vs,KV kvs vs/\h.DictOf (bv P w) a vs:=zQ ok (.inl e)
theorem wu {ks:List Key}(ok:HOk P w H h) (e:H a=some (.tup (ks.map kV))):(tupleKind (bv P w)).is h ks a:=by
 obtain⟨_,its,r,o,h1,h2,n,h3⟩:=(show cT P w H h a (.tup (ks.map kV)) from ok a _ e)
 exact⟨o,its.toArray,n,h1,h2,h3,by simpa using sW r⟩
theorem yh {kvs:List (List Key × V)}(ok:HOk P w H h) (e:Rd H a (.dT kvs)):kvs.length <= sizeLine/\(a == sysModules)=false /\
 ∃ xs,KT H kvs xs/\h.DictOfH (tupleKind (bv P w)) a xs:=by
 obtain⟨z,y,xs,r,o,es,ep,h1,h2,h3,h4,h5⟩:=(show cT P w H h a (.dT kvs) from Fp ok e)
 refine⟨z,y,xs,r,o,es,ep,h1,h2,h3,h4,λx hx=>?_,h5⟩;have all:∀ {l:List (List Key × V)} {m:List (List Key × Addr × Value)},KT H l m->∀ x∈m,(tupleKind (bv P w)).is h x.1 x.2.1:=by
  intro l m q
  induction q with
 |nil=>intro x hx;exact nomatch hx
 |@cons p q ps qs hq t ih =>
   intro x hx;rcases mem_cons.mp hx with e|hx
   . subst e;exact wu ok (by rw[<-hq.1];exact hq.2.1)
   . exact ih x hx
 exact all r x hx
theorem Gn {kvs:List (List Key × V)}(ok:HOk P w H h) (e:H a=some (.dT kvs)):kvs.length <= sizeLine/\(a == sysModules)=false /\
 ∃ xs,KT H kvs xs/\h.DictOfH (tupleKind (bv P w)) a xs:=yh ok (.inl e)
end
def Aa (H:Hp) (a:Addr) (y:V) (r:Option V):Prop :=
 (∃ kvs k,Rd H a (.dK kvs)/\y=kV k/\r=oG kvs k)\/∃ kvs k b,Rd H a (.dT kvs)/\y=.ref b/\H b=some (.tup (k.map kV))/\r=oG kvs k
def Ej (H:Hp) (a:Addr) (y v:V) (H':Hp):Prop :=
 (∃ kvs k,H a=some (.dK kvs)/\y=kV k/\kvs.length < sizeLine/\H'=upd H a (.dK (rg kvs k v))) \/
 ∃ kvs k b,H a=some (.dT kvs)/\y=.ref b/\H b=some (.tup (k.map kV))/\kvs.length < sizeLine/\H'=upd H a (.dT (rg kvs k v))
theorem Aa.k {H:Hp}{a:Addr}{kvs:List (Key × V)}{k:Key}(e:H a=some (.dK kvs)):Aa H a (kV k) (oG kvs k):=.inl ⟨kvs,k,.inl e,rfl,rfl⟩
theorem Ej.k {H:Hp}{a:Addr}{kvs:List (Key × V)}{k:Key}{v:V}(e:H a=some (.dK kvs)) (hl:kvs.length < sizeLine):Ej H a (kV k) v (upd H a (.dK (rg kvs k v))):=.inl ⟨kvs,k,e,rfl,hl,rfl⟩
section
variable {X:Cx}{pins:List (Addr × Obj)}{σ:St}{H:Hp}{s:Shared}{a:Addr}{y v:V}{u r:Value}{o:Option V}{A:Around}{E:Value->Shared->Prop}
theorem Inv.big (I:Inv X pins σ H s):sysModules < s.heap.objs.size:=by
 have h:mainGlobals < s.heap.objs.size:=(I.mod.glob.keeps I.bk).lt;exact Nat.lt_trans (by decide) h
theorem zy {Q:Value->Shared->Prop}(hu:A.units+1 < cLine) (I:Inv X pins σ H s) (g:Aa H a y (some v)) (ry:bR y u) (h:∀ w' s',Inv X pins σ H s'->bR v w'->Q w' s') :
 wpAny (model X.prog X.w) A (getItem (.ref a) u) Q E s:=by
 rcases g with⟨kvs,k,e,ey,l⟩|⟨kvs,k,b,e,ey,eb,l⟩
 . subst ey;obtain⟨z,hd,vs,rel,dd⟩:=zQ I.hok e;obtain⟨w',hw,rw'⟩:=rX.some_of (v:=v) (o:=valueAt vs k) (by rw[l];exact rel.val k);exact wpAny_getItem_of (xn ry) dd.mapOf hw (h w' _ (I.tok _) rw')
 . subst ey;cases (show u=Value.ref b from ry);obtain⟨z,hd,xs,rel,dd⟩:=yh I.hok e;obtain⟨w',hw,rw'⟩:=rX.some_of (v:=v) (o:=(atKey xs k).map (·.2)) (by rw[l];exact rel.val k);obtain⟨p,hp,hp2⟩:=map_eq_some_iff.mp hw;refine wpAny_getItem_heap (tupleKind_room_in1 hu) (wu I.hok eb) dd hp ?_;rw[hp2];exact h w' _ (I.tok _) rw'
theorem DF {Q:Value->Shared->Prop}(hu:A.units+1 < cLine) (I:Inv X pins σ H s) (g:Aa H a y o) (ry:bR y u) (h:∀ s',Inv X pins σ H s'->Q (.bool (!o.isSome)) s') :
 wpAny (model X.prog X.w) A (compareOp .NotIn u (.ref a)) Q E s:=by
 rcases g with⟨kvs,k,e,ey,l⟩|⟨kvs,k,b,e,ey,eb,l⟩
 . subst ey;obtain⟨z,hd,vs,rel,dd⟩:=zQ I.hok e;refine wpAny_notIn_of (xn ry) hd dd.mapOf ?_;rw[<-(rel.val k).isSome_eq,<-l];exact h _ (I.tok _)
 . subst ey;cases (show u=Value.ref b from ry);obtain⟨z,hd,xs,rel,dd⟩:=yh I.hok e;refine wpAny_notIn_heap (tupleKind_room_in1 hu) (wu I.hok eb) hd dd ?_;have q:=(rel.val k).isSome_eq;rw[isSome_map]at q;rw[<-q,<-l];exact h _ (I.tok _)
theorem qR {h':Heap}{t':Nat}{ob:HO}(I:Inv X pins σ H s) (mu:Mut (H a)) (hs:Heap.SameBut a s.heap h') (he:∃ q,h'.get? a=some q) (new:cT X.prog X.w (upd H a ob) h' a ob) :
 Inv X pins σ (upd H a ob) { s with heap:=h',toks:=t' } :=
 I.write (x:=a) (e:=a) mu (.inl rfl) (λb q hb z=>(hs.2 b hb).trans z) he new
theorem BZ {P:Program}{w:World}{H':Hp}{h':Heap}{kvs:List (Key × V)}{vs:List (Key × Value)}(z:kvs.length <= sizeLine) (hd:(a == sysModules)=false) (rel:KV kvs vs) (dd:h'.DictOf (bv P w) a vs) :
 cT P w H' h' a (.dK kvs):=⟨z,hd,vs,rel,dd⟩
theorem yO {H':Hp}{Q:Unit->Shared->Prop}(hu:A.units+1 < cLine) (I:Inv X pins σ H s) (g:Ej H a y v H') (ry:bR y u) (rv:bR v r) (h:∀ s',Inv X pins σ H' s'->Q () s') :
 wpAny (model X.prog X.w) A (setItem (.ref a) u r) Q E s:=by
 rcases g with⟨kvs,k,e,ey,l,eH⟩|⟨kvs,k,b,e,ey,eb,l,eH⟩
 . subst ey eH;obtain⟨z,hd,vs,rel,dd⟩:=A1 I.hok e;have hz:vs.length <= sizeLine:=by rw[<-rel.length];exact z
   have hl:(rg kvs k v).length <= sizeLine:=by have:=n6 kvs k v;omega
   refine wpAny_setItem_pairs (hsz:=hz) (xn ry) dd λh' dd' hs=>h _ ?_
   have he:∃ q,h'.get? a=some q:=let ⟨q,_,_,hq,_⟩:=dd';⟨q,hq⟩;exact qR I (by rw[e];exact True.intro) hs he (BZ hl hd (rel.put k rv) dd')
 . subst ey eH;cases (show u=Value.ref b from ry);obtain⟨z,hd,xs,rel,dd⟩:=Gn I.hok e;have hz:xs.length <= sizeLine:=by rw[<-Paired.length rel];exact z
   have hl:(rg kvs k v).length <= sizeLine:=by have:=n6 kvs k v;omega
   refine wpAny_setItem_heap (hsz:=hz) (tupleKind_room_in1 hu) (wu I.hok eb) dd λh' dd' hs=>h _ ?_
   obtain⟨q,es,ep,hq,h2,h3,h4,_,h5⟩:=dd';refine qR I (by rw[e];exact True.intro) hs ⟨q,hq⟩ ⟨hl,hd,_,(rel.put k eb rv).keeps λc ys ec=>?_,q,es,ep,hq,h2,h3,h4,h5⟩;rw[aa (ii ec e (λz=>nomatch z))];exact ec
end
section
variable {X:Cx}{pins:List (Addr × Obj)}{σ:St}{H:Hp}{s:Shared}{a:Addr}{kvs:List (Key × V)}{k:Key}{u:Value}{A:Around}{E:Value->Shared->Prop}
theorem EI {v:V}{more:List Value}{Q:Value->Shared->Prop}(I:Inv X pins σ H s) (e:H a=some (.dK kvs)) (ry:bR (kV k) u) (l:oG kvs k=some v) (hm:more=[]\/∃ x,more=[x])
 (h:∀ w' s',Inv X pins σ (upd H a (.dK (tR kvs k))) s'->bR v w'->Q w' s'):wpAny (model X.prog X.w) A (call (.builtin "dict.pop") (.ref a :: u :: more)) Q E s:=by
 obtain⟨z,hd,vs,rel,dd⟩:=A1 I.hok e;obtain⟨w',hw,rw'⟩:=rX.some_of (v:=v) (o:=valueAt vs k) (by rw[<-l];exact rel.val k);have hp:(keyPart u).isSome=true:=by
  cases k with
 |inl i=>obtain⟨t,q⟩:=(show ∃ t,u=Value.int i t from ry);subst q;rfl
 |inr x=>obtain⟨t,q⟩:=(show ∃ t,u=Value.str x t from ry);subst q;rfl
 have ha:argsOk "dict.pop" ⟨.ref a :: u :: more,[]⟩:=by
  rcases hm with q|⟨x,q⟩
  . subst q;exact PySem.F.args_dict_pop_2 _ _
  . subst q;exact PySem.F.args_dict_pop_3 _ _ _
 refine call_meetsIn PySem.F.slot_dict_pop dd.typeIs PySem.F.entry_dict_pop ha (meets_dict_pop_there (bv X.prog X.w) a (xn ry) more hm hp)
  ⟨vs,w',dd,by rw[<-rel.length];exact z,hw,λh' dd' hs=>h w' _ ?_ rw'⟩
 have he:∃ q,h'.get? a=some q:=let ⟨q,_,_,hq,_⟩:=dd';⟨q,hq⟩;exact qR I (by rw[e];exact True.intro) hs he (BZ (Nat.le_trans (AU kvs k) z) hd (rel.drop k) dd')
theorem EC {r:Value}{Q:Value->Shared->Prop}(I:Inv X pins σ H s) (e:H a=some (.dK kvs)) (ry:bR (kV k) u) (l:oG kvs k=none) (h:∀ s',Inv X pins σ H s'->Q r s') :
 wpAny (model X.prog X.w) A (call (.builtin "dict.pop") [.ref a,u,r]) Q E s:=by
 obtain⟨z,hd,vs,rel,dd⟩:=A1 I.hok e;have hn:valueAt vs k=none:=rX.none_of (by rw[<-l];exact rel.val k);have hp:(keyPart u).isSome=true:=by
  cases k with
 |inl i=>obtain⟨t,q⟩:=(show ∃ t,u=Value.int i t from ry);subst q;rfl
 |inr x=>obtain⟨t,q⟩:=(show ∃ t,u=Value.str x t from ry);subst q;rfl
 exact call_meetsIn PySem.F.slot_dict_pop dd.typeIs PySem.F.entry_dict_pop (PySem.F.args_dict_pop_3 _ _ _) (meets_dict_pop_default (bv X.prog X.w) a (xn ry) hd hp r) ⟨vs,dd,hn,h _ (I.tok _)⟩
end
def G8 (i:Expr):Prop:=∀ ov iv,subscripted i false ov iv=operate [ov,iv] (getItem ov iv)
theorem A5 {prog:Program}{w:World}{A:Around}{E:Value->Shared->Prop}{s:Shared}{env:Env}{value slice:Expr}{pos:Pos}{T id:String}{Q:Value->Shared->Prop}
 (hl:typeLookup (.type T) "__getitem__"=pure (some (.builtin id))) (hs:G8 slice)
 (h:wpAny (model prog w) A (eval value env) (λo s₁=>wpAny (model prog w) A (eval slice env) (λi s₂=>s₂.TypeIs o T/\wpAny (model prog w) A (getItem o i) Q E s₂) E s₁) E s) :
 wpAny (model prog w) A (eval (.Subscript value slice pos) env) Q E s:=by
 refine Subscript_ (wpAny_mono h (λo s₁ h₁=>wpAny_mono h₁ (λi s₂ h₂=>?_) λ_ _ x=>x) λ_ _ x=>x);obtain⟨hT,h₂⟩:=h₂;unfold subscriptTail;refine wpAny_bind ?_;rw[getitemInPython_of_ne hT.not_modules];refine wpAny_bind (wpAny_specialOf hT hl ?_);have fin:wpAny (model prog w) A (subscripted slice false o i) (λr s₃=>wpAny (model prog w) A (letTemporaryGo value o r >>= λ_=>pure r) Q E s₃) E s₂:=by
  rw[hs o i];exact wpAny_operating (wpAny_mono h₂ (λr s₃ h₃=>wpAny_bind (wpAny_letTemporaryGo (wpAny_pure h₃))) λ_ _ x=>x)
 first
 |exact wpAny_pure (wpAny_bind fin)
 |exact wpAny_bind (wpAny_pure (wpAny_bind fin))
 |exact wpAny_bind fin
theorem uu {X:Cx}{pins:List (Addr × Obj)}{σ:St}{H:Hp}{s:Shared}{a:Addr}{y:V}{o:Option V}(I:Inv X pins σ H s) (g:Aa H a y o):s.TypeIs (.ref a) "dict":=by
 rcases g with⟨kvs,k,e,_,_⟩|⟨kvs,k,b,e,_,_,_⟩
 . obtain⟨_,_,vs,_,dd⟩:=zQ I.hok e;exact dd.typeIs
 . obtain⟨_,_,xs,_,dd⟩:=yh I.hok e;exact dd.typeIs
def G3 (td ty:TE):TE:=λσ H Q=>td σ H λx H1=>ty σ H1 λy H2=>∃ a v,x=.ref a/\Aa H2 a y (some v)/\Q v H2
def CF (ty td:TE):TE:=λσ H Q=>ty σ H λy H1=>td σ H1 λx H2=>∃ a o,x=.ref a/\Aa H2 a y o/\Q (.bl (!o.isSome)) H2
def Ga (td ty tv:TE):TS:=λD σ H=>tv σ H λv H1=>td σ H1 λx H2=>ty σ H2 λy H3=>∃ a H4,x=.ref a/\Ej H3 a y v H4/\D.nx σ H4
section
variable {X:Cx}{o i e value:Expr}{pos pos' tpos:Pos}{td ty tv:TE}
theorem eY (hu:X.A.units+1 < cLine) (ho:PE X o td) (hi:PE X i ty) (hs:G8 i):PE X (.Subscript o i pos) (G3 td ty):=by
 intro pins s σ H Q I h;refine A5 PySem.F.slot_dict_getitem.lookup hs (thn (ho pins s σ H _ I h) λu s1 ⟨x,H1,I1,rx,q1⟩=>thn (hi pins s1 σ H1 _ I1 q1) λiv s2 ⟨y,H2,I2,ry,a,v,ex,g,q2⟩=>?_);subst ex;obtain rfl:u=Value.ref a:=rx;exact⟨uu I2 g,zy hu I2 g ry λw' s3 I3 rw'=>⟨v,H2,I3,rw',q2⟩⟩
theorem sw (hu:X.A.units+1 < cLine) (hi:PE X i ty) (ho:PE X o td):PC X .NotIn i o (CF ty td):=by
 intro pins s σ H Q I h;refine thn (hi pins s σ H _ I h) λiv s1 ⟨y,H1,I1,ry,q1⟩=>thn (ho pins s1 σ H1 _ I1 q1) λu s2 ⟨x,H2,I2,rx,a,ov,ex,g,q2⟩=>?_
 subst ex;obtain rfl:u=Value.ref a:=rx;exact DF hu I2 g ry λs3 I3=>⟨.bl (!ov.isSome),H2,I3,rfl,q2⟩
theorem uc (hu:X.A.units+1 < cLine) (ho:PE X o td) (hi:PE X i ty) (hv:PE X value tv) (hs:swapsWith value (some (.Subscript o i pos')) pos.line X.env=pure false) :
 PS X (.Assign [.Subscript o i pos'] value pos) (Ga td ty tv):=by
 intro pins s σ H D I h;refine wpAny_Assign_Subscript (thn (hv pins s σ H _ I h) λr s1 ⟨v,H1,I1,rv,q1⟩=>thn (ho pins s1 σ H1 _ I1 q1) λu s2 ⟨x,H2,I2,rx,q2⟩=>thn (hi pins s2 σ H2 _ I2 q2) λiv s3 ⟨y,H3,I3,ry,a,H4,ex,g,q3⟩=>?_) hs;subst ex;obtain rfl:u=Value.ref a:=rx;exact yO hu I3 g ry rv λs4 I4=>⟨σ,H4,I4,q3⟩
end
theorem AN {P:Program}{w:World}{H:Hp}(h:Heap) (hb:sysModules < h.objs.size):cT P w H (h.push { cls:=.type "dict",data:=.dict #[] }) h.objs.size (.dK []) :=
 ⟨zero_le _,beq_eq_false_iff_ne.mpr (Ne.symm (ne_of_lt hb)),[],.nil,Heap.DictOf.new h⟩
def EY:TE:=λ_ H Q=>∀ p,H p=none->Q (.ref p) (upd H p (.dK []))
section
variable {X:Cx}{pos:Pos}
theorem qN:PE X (.Dict [] [] pos) EY:=λpins s σ H Q I h =>
 wpAny_Dict_empty ⟨.ref s.heap.objs.size,_,I.laid (a:=s.heap.objs.size) (o:=.dK []) (t':=s.toks) (λ_ _ q=>Heap.get?_push_of_some _ q) (Nat.le_refl _) (AN s.heap I.big),rfl,h _ (I.hok.fresh (Nat.le_refl _))⟩
end
structure M1 (X:Cx) (o:Expr) (m:Str) (apos:Pos) (e:Expr) (cpos:Pos):Prop where
 base:attributeBase o m X.env (eval o X.env)=eval o X.env
 few:((backTo cpos (starEach [e] X.env)).all (λx=>!x.1) && (backToKw cpos (keywordEach [] X.env)).all (λx=>x.1.isSome)
  && decide (([e]:List Expr).length+([]:List Keyword).length+(if ([]:List Keyword).isEmpty then 0 else 1) < 30))=true
 line:(apos.endLine == cpos.line)=true
 trees:backTo cpos (starEach [e] X.env)=[(false,eval e X.env)]
structure M2 (X:Cx) (o:Expr) (m:Str) (apos:Pos) (e f:Expr) (cpos:Pos):Prop where
 base:attributeBase o m X.env (eval o X.env)=eval o X.env
 few:((backTo cpos (starEach [e,f] X.env)).all (λx=>!x.1) && (backToKw cpos (keywordEach [] X.env)).all (λx=>x.1.isSome)
  && decide (([e,f]:List Expr).length+([]:List Keyword).length+(if ([]:List Keyword).isEmpty then 0 else 1) < 30))=true
 line:(apos.endLine == cpos.line)=true
 trees:backTo cpos (starEach [e,f] X.env)=[(false,eval e X.env),(false,eval f X.env)]
def IsD (H:Hp) (a:Addr):Prop:=(∃ kvs,Rd H a (.dK kvs))\/∃ kvs,Rd H a (.dT kvs)
theorem Cr {X:Cx}{pins:List (Addr × Obj)}{σ:St}{H:Hp}{s:Shared}{a:Addr}(I:Inv X pins σ H s) (d:IsD H a) :
 s.TypeIs (.ref a) "dict"/\(∀ b,Value.ref a=.ref b->∃ ob,s.heap.get? b=some ob/\ob.dict=none)/\(a == sysModules)=false:=by
 rcases d with⟨kvs,e⟩|⟨kvs,e⟩
 . obtain⟨_,hd,vs,_,dd⟩:=zQ I.hok e;refine⟨dd.typeIs,λb q=>?_,hd⟩;cases q;obtain⟨ob,_,_,h1,h2,_⟩:=dd;exact⟨ob,h1,h2.2.1⟩
 . obtain⟨_,hd,xs,_,dd⟩:=yh I.hok e;refine⟨dd.typeIs,λb q=>?_,hd⟩;cases q;obtain⟨ob,_,_,h1,h2,_⟩:=dd;exact⟨ob,h1,h2.2.1⟩
section
variable {X:Cx}{pins:List (Addr × Obj)}{σ:St}{H:Hp}{s:Shared}{a:Addr}{y d:V}{u r:Value}{o:Option V}{A:Around}{E:Value->Shared->Prop}
end
def Fu (td ty:TE):TE:=λσ H Q=>td σ H λx H1=>∃ a,x=.ref a/\IsD H1 a/\ty σ H1 λy H2=>∃ kvs k v,H2 a=some (.dK kvs)/\y=kV k/\oG kvs k=some v/\Q v (upd H2 a (.dK (tR kvs k)))
section
variable {X:Cx}{o e f:Expr}{apos cpos:Pos}{td ty tx:TE}
theorem B5 (ho:PE X o td) (he:PE X e ty) (m:M1 X o "pop" apos e cpos):PE X (.Call (.Attribute o "pop" apos) [e] [] cpos) (Fu td ty):=by
 intro pins s σ H Q I h;refine wpAny_Call_method m.base m.few m.line PySem.F.plainAttrs_dict PySem.F.slot_dict_pop PySem.F.type_dict_pop (thn (ho pins s σ H _ I h) λu s1 ⟨x,H1,I1,rx,a,ex,d,q1⟩=>?_);subst ex;obtain rfl:u=Value.ref a:=rx;obtain⟨t1,t2,_⟩:=Cr I1 d;refine⟨t1,t2,?_⟩;rw[m.trees];refine Calls.callWith_builtin rfl (Calls.evalArgs_plain (Calls.spliced_cons (thn (he pins s1 σ H1 _ I1 q1) λiv s2 ⟨y,H2,I2,ry,kvs,k,v,ea,ey,l,q2⟩=>Calls.spliced_nil ?_)));subst ey;exact EI I2 ea ry l (.inl rfl) λw' s3 I3 rw'=>⟨v,_,I3,rw',q2⟩
end
section
variable {X:Cx}{pins:List (Addr × Obj)}{σ:St}{H:Hp}{s:Shared}{a:Addr}{kvs:List (Key × V)}{A:Around}{E:Value->Shared->Prop}
end
section
variable {X:Cx}{pins:List (Addr × Obj)}{σ:St}{H:Hp}{s:Shared}{a:Addr}{y:V}{u:Value}{A:Around}{E:Value->Shared->Prop}
end
end L2
namespace Att
open PySem PySem.W PySem.Calls PyProof.Rows
theorem oB {P:Params}{h:Heap}:∀ (ns:List Int) (vs:List Value),WellAll P h vs (ns.map WData.int)->IntsAre vs ns:=by
 intro ns
 induction ns with
|nil =>
  intro vs w;rw[map_nil]at w;cases w;exact .nil
|cons n ns ih =>
  intro vs w;rw[map_cons]at w;cases w with
 |cons a b =>
   cases a;exact .cons _ _ (ih _ b)
theorem yd {l:OpenLaw}{n:Nat}(hn:l.most=some n) {P:Params}{h:Heap}{args:List WData}{vals:List Value}
 (hpre:l.row.toRowW.claim.pre args=true) (hwl:WellAll P h vals args) :
 ∃ a vs ns,vals=[Value.ref a]/\args=[WData.list (ns.map WData.int)]/\h.get? a=some { cls:=.type "list",data:=.seq vs.toArray }/\IntsAre vs ns/\ns.length <= n:=by
 have hsh:WShape.hasAll [] args [.list .int]=true:=(pre_splitW hpre).1;have hc:l.pre.holds [] { args:=args }=true:=(pre_splitW hpre).2;obtain⟨d,r,rfl,h1,h2⟩:=hasAllW_cons hsh;obtain rfl:=hasAllW_nil h2;obtain⟨xs,rfl,h3⟩:=hasW_list h1;obtain⟨ns,rfl⟩:=items_int h3;have hlen:ns.length <= n:=by
  unfold OpenLaw.pre at hc;have h4:(WTm.not (.lt (.lit (.int (n:Int))) (.len (.arg 0)))).holds [] { args:=[.list (ns.map .int)] }=true:=by
   have h4:=(holds_andW hc).1;rw[hn]at h4;exact h4
  have h5:=condW_of h4 (w_not (w_lt w_lit (w_len_list (w_arg rfl))));rw[length_map]at h5;refine Nat.le_of_not_lt λq=>?_
  have q':(n:Int) < ((ns.length:Nat):Int):=by omega
  first
  |(rw[decide_eq_true q']at h5;exact absurd h5 (by decide))
  |(simp at h5;omega)
 cases hwl with
|cons w1 w2 =>
  cases w2;cases w1 with
 |list ho hall=>exact⟨_,_,ns,rfl,rfl,ho,oB ns _ hall,hlen⟩
theorem zU (l:OpenLaw) (args:List WData):l.row.toRowW.claim.post args (.bool true) args=true :=
 postW_of (r:=l.row.toRowW) (X:=(true == true))
  (show WShape.has [] (.bool true) .bool=true by first|rfl|decide|simp[WShape.has,WShape.arms,WShape.armsAll])
  (show (WTm.eq .res (.lit (.bool true))).value [] { args:=args,res:=some (.bool true),after:=args }=some (.bool (true == true)) from w_eq_bool (w_res rfl) w_lit) rfl
theorem attach_call {l:OpenLaw}{n:Nat}{q:Program}{loose:List Str}{XP:(Str->Option Value)->Heap->Prop}{YP:World->Heap->Prop}{d:DefRec}
 (hn:l.most=some n) (hdf:d.params.defaults=[])
 (call:∀ (w:World) (s₀ s₁:Shared) (mg mb:Str->Option Value) (fa:Addr) (o:Obj) (pm cd doc:Value) (a:Addr) (vs:List Value) (ns:List Int),
  Ground q loose [] XP w s₀ mg mb s₁.heap->YP w s₁.heap ->
  s₁.heap.get? fa=some o->o.data=.func (docDef d.name d.params d.body d.scope pm cd doc)->s₁.heap.CodeRec cd d.name->mg d.name=some (.ref fa) ->
  s₁.heap.get? a=some { cls:=.type "list",data:=.seq vs.toArray }->IntsAre vs ns->ns.length <= n->s₁.gens=#[] ->
  codeAny (model l.prog w) callerA (.call (.ref fa) ⟨[.ref a],[]⟩) (λr s'=>r=.ok (.ret (.bool true))/\OldK s₁.heap s'.heap/\s'.os=s₁.os/\AllBare s'.gens) s₁) :
 WalkO q loose XP YP l.row.toRowW d [] (λf vs=>PySem.call f vs):=by
 intro w s₀ s₁ mg mb G Y fa o pm cd doc dV kV ho hd hcd hD hmg hg args vals as hpre hlay hrd hwl hlo;obtain rfl:dV=.none:=Dflts.none hD hdf;obtain rfl:kV=.none:=Dflts.noKw hD;obtain⟨a,vs,ns,rfl,rfl,hobj,hints,hlen⟩:=yd hn hpre hwl;refine enter_call (codeAny_mono (call w s₀ s₁ mg mb fa o pm cd doc a vs ns G Y ho (fd_plain hd) hcd hmg hobj hints hlen hg) λr s' hq=>?_);obtain⟨rfl,h2,h3,h4⟩:=hq;exact⟨.inl ⟨.bool true,.bool true,[],rfl,λ_=>rfl,.bool true,zU l _,λ_=>⟨Pairwise.nil,λ_ hm=>(nomatch hm)⟩⟩,h2,h3,h4⟩
section
variable {prog:Program}{w:World}{A:Around}{E:Value->Shared->Prop}{s:Shared}{K:Frag}
def GX (h:Heap) (L d:Addr):List (Addr × Obj):=(List.range h.objs.size).filterMap λa=>if a=L\/a=d then none else (h.get? a).map λo=>(a,o)
end
end Att
namespace L2
open PySem PySem.Spec PyProof.Rows
theorem tY:∀ {vs:List Value}{ns:List Int},IntsAre vs ns->bC (ns.map V.int) vs
|_,_,.nil=>.nil
|_,_,.cons n t h=>.cons ⟨t,rfl⟩ (tY h)
def G4 (H:Hp):Prop:=∀ b,H b=none\/∃ o xs,H b=some (.frz o (.lst xs))
theorem BL {P:Program}{w:World}{K:PySem.W.Frag}{mg mb:Str->Option Value}{CX:CXT}{k:Nat}{fa a:Addr}{fd:FuncData}{x:Str}{sp:Sp}{s₁:Shared}{vs:List Value}{ns:List Int}
 (KX:K.In s₁.heap) (hns:s₁.heap.Ns mainGlobals mg) (hb:s₁.heap.Ns builtinsNs mb) (hbb:∀ x:Str,x≠"__name__"->mb x=bootBuiltins x) (hlim:s₁.heap.NoLimit) (hg:s₁.gens=#[])
 (ha:s₁.heap.get? a=some { cls:=.type "list",data:=.seq vs.toArray }) (hi:IntsAre vs ns) (hl:ns.length <= sizeLine) (hr:Room k callerA)
 (F:∀ base:Heap,K.In base->base.Ns mainGlobals mg->FnOk P w K mg base CX k fa fd [x] sp) (hbind:∀ (s:Shared) (u:Value),BindsTo s fd ⟨[u],[]⟩ [(x,u)])
 (hsp:∀ H:Hp,G4 H->SqL K H a (ns.map V.int)->sp [.ref a] H (λv _=>v=.bl true) λ_ _ _=>False)
 (hCX:∀ H e s',CX [] H s₁ (λ_ _ _=>False) e s'->False) :
 codeAny (model P w) callerA (.call (.ref fa) ⟨[.ref a],[]⟩) (λr s'=>r=.ok (.ret (.bool true))/\OldK s₁.heap s'.heap/\s'.os=s₁.os/\AllBare s'.gens) s₁:=by
 have rv:=tY hi;have lenV:=hi.length;have core:∀ H:Hp,G4 H->SqL K H a (ns.map V.int)->HOk P w H s₁.heap->(∀ b,H b≠none->b=a)->(H a≠none->K.lookup a=none) ->
  codeAny (model P w) callerA (.call (.ref fa) ⟨[.ref a],[]⟩) (λr s'=>r=.ok (.ret (.bool true))/\OldK s₁.heap s'.heap/\s'.os=s₁.os/\AllBare s'.gens) s₁:=by
  intro H hO hS hok hA hK;have base_of:∀ {b:Addr} {o:Obj},s₁.heap.get? b=some o->H b=none->(AJ s₁.heap H).get? b=some o:=λe n=>Au e n
  have noA:∀ {b:Addr} {o:Obj} {es:Array DictEntry} {ep:Nat},s₁.heap.get? b=some o->o.data=.dict es ep->H b=none:=λ{b o es ep} e d=>by
   cases q:H b with
  |none=>rfl
  |some u =>
    have e':b=a:=hA b (by rw[q];simp);subst e';rw[ha]at e;cases e;have d':Data.seq vs.toArray _=Data.dict es ep:=d;cases d'
  have nsK:∀ {b:Addr} {m:Str->Option Value},s₁.heap.Ns b m->(AJ s₁.heap H).Ns b m:=λ{b m} ⟨o,es,ep,e,d,r⟩=>⟨o,es,ep,base_of e (noA e d),d,r⟩
  have hKb:K.In (AJ s₁.heap H):=λb o e=>base_of (KX b o e) (by
   cases q:H b with
  |none=>rfl
  |some u =>
    have e':b=a:=hA b (by rw[q];simp);subst e';rw[hK (by rw[q];simp)]at e;cases e)
  have hM:Mod K mg (AJ s₁.heap H):=⟨hKb,nsK hns,⟨mb,nsK hb,hbb⟩,let ⟨mc,h1,h2⟩:=hlim;⟨mc,nsK h1,h2⟩⟩
  have e0:Env0 P w K mg (AJ s₁.heap H) callerA [] s₁ H:=⟨rfl,hM,λb o e=>Cy e,le_of_eq (xO _ _),trivial,λb hb=>absurd (show b∈([]:List Addr) from hb) (by simp),hok,.of_eq hg⟩
  refine codeAny_mono ((F _ hKb (nsK hns)).run callerA [] s₁ H ⟨[.ref a],[]⟩ [.ref a] [.ref a] _ _ hr e0 (hbind s₁ (.ref a)) (.cons rfl .nil) (hsp H hO hS)) λr s' h=>?_
  cases r with
 |error e=>exact(hCX H e s' h).elim
 |ok fl =>
   cases fl with
  |next=>exact False.elim h
  |brk=>exact False.elim h
  |cont=>exact False.elim h
  |ret u =>
    obtain⟨v,H',os,bare,un,hok',r',q⟩:=h;have q':v=.bl true:=q;subst q';obtain rfl:u=Value.bool true:=r';refine⟨rfl,OldK.of_keep λb o e=>?_,os,bare⟩;cases q:H b with
   |none=>exact un.keep b o e q (by intro z;exact absurd (show b∈([]:List Addr) from z) (by simp)) (by simp)
   |some u =>
     rcases hO b with z|⟨ob,xs,z⟩
     . rw[q]at z;cases z
     . have z2:=un.frzs b ob _ z;obtain⟨e1,_⟩:=hok b _ z;obtain⟨e2,_⟩:=hok' b _ z2;rw[e]at e1;cases e1;exact e2
 cases hk:K.lookup a with
|some o =>
  have e:=KX a o hk;rw[ha]at e;cases e;refine core (λ_=>none) (λ_=>.inl rfl) (.inr ⟨_,vs.toArray,_,hk,rfl,rfl,rfl,by rw[size_toArray,lenV];exact hl,by simpa using rv⟩) (λb u z=>by have z':(none:Option HO)=some u:=z;cases z') (λb z=>absurd rfl z) λz=>absurd rfl z
|none =>
  refine core (λb=>if b=a then some (.frz { cls:=.type "list",data:=.seq vs.toArray } (.lst (ns.map V.int))) else none) (λb=>?_) (.inl (.inr ⟨{ cls:=.type "list",data:=.seq vs.toArray },if_pos rfl⟩)) (λb u z=>?_) (λb z=>?_) λ_=>hk
  . by_cases hb:b=a
    . exact .inr ⟨_,_,if_pos hb⟩
    . exact .inl (if_neg hb)
  . by_cases hb:b=a
    . have z':=(if_pos hb).symm.trans z;cases z';subst hb;exact⟨ha,by rw[length_map];exact hl,vs,_,rv,ha⟩
    . have z':=(if_neg hb).symm.trans z;cases z'
  . by_cases hb:b=a
    . exact hb
    . exact absurd (if_neg hb) z
theorem walk_of {l:PySem.W.OpenLaw}{n k:Nat}{q:Program}{loose:List Str}{XP:(Str->Option Value)->Heap->Prop}{YP:World->Heap->Prop}{d:DefRec}{K:Params->PySem.W.Frag}{CX:World->CXT}{sp:World->Sp}{x:Str}
 (hn:l.most=some n) (hn2:n <= sizeLine) (hdf:d.params.defaults=[]) (hr:Room k callerA)
 (hY:∀ (w:World) (h:Heap),YP w h->(K w.params).In h)
 (F:∀ (w:World) (mg:Str->Option Value) (fa:Addr) (h:Heap),(K w.params).In h->h.Ns mainGlobals mg->mg d.name=some (.ref fa) ->
  ∃ fd:FuncData,(∀ (s:Shared) (u:Value),BindsTo s fd ⟨[u],[]⟩ [(x,u)]) /\
   ∀ base:Heap,(K w.params).In base->base.Ns mainGlobals mg->FnOk l.prog w (K w.params) mg base (CX w) k fa fd [x] (sp w))
 (hsp:∀ (w:World) (H:Hp) (a:Addr) (ns:List Int),ns.length <= n->G4 H->SqL (K w.params) H a (ns.map V.int)->sp w [.ref a] H (λv _=>v=.bl true) λ_ _ _=>False)
 (hCX:∀ (w:World) (H:Hp) (s:Shared) (e:Value) (s':Shared),CX w [] H s (λ_ _ _=>False) e s'->False) :
 PySem.W.WalkO q loose XP YP l.row.toRowW d [] (λf vs=>PySem.call f vs):=by
 refine Att.attach_call hn hdf λw s₀ s₁ mg mb fa o pm cd doc a vs ns G Y ho hd hcd hmg hobj hints hlen hg=>?_
 have KX:=hY w _ Y;obtain⟨fd,hb,hF⟩:=F w mg fa _ KX G.T.g hmg;exact BL KX G.T.g G.T.b G.T.builtins G.T.nolimit hg hobj hints (Nat.le_trans hlen hn2) hr hF hb (λH hO hS=>hsp w H a ns hlen hO hS) λH e s'=>hCX w H s₁ e s'
def aF (s:Stmt) (j:Nat):Stmt:=match s with
|.ClassDef _ _ _ body _ _ _ _ _ _ _=>body.getD j (.Pass ⟨0,0,0,0⟩)
|_=>.Pass ⟨0,0,0,0⟩
def fq (s:Stmt):Arguments:=match s with
|.FunctionDef _ a _ _ _ _ _ _ _ _=>a
|_=>{ posonlyargs:=[],args:=[],vararg:=none,kwonlyargs:=[],kw_defaults:=[],kwarg:=none,defaults:=[] }
def eI (s:Stmt):List Stmt:=match s with
|.FunctionDef _ _ b _ _ _ _ _ _ _=>b
|_=>[]
def ah (s:Stmt):Scope:=match s with
|.FunctionDef _ _ _ _ _ _ sc _ _ _=>sc
|_=>{ kind:=.function,names:=[],isGenerator:=false,isCoroutine:=false }
abbrev CX0:CXT:=λ_ _ _ _ _ _=>False
abbrev E0:XK:=λ_ _ _=>False
theorem ay {X:Cx}:jB CX0 X E0:=λ_ _ _ _ _ _ _ h=>h.elim
structure Fun (K:PySem.W.Frag) (x qual:Str) (st:Stmt) (f:Addr) (fd:FuncData):Prop where
 ex:∃ (oc:Value) (od:Option Addr) (kV doc pm:Value) (an:Option Addr) (cdv ct:Value) (osl:Array (Option Value)),
  fd=fnOf x qual (fq st) (eI st) (ah st) .none kV doc pm an cdv ct/\K.lookup f=some ⟨oc,od,.func fd,osl⟩/\codeIn K cdv qual=true
 kp:keepIn K (.ref f)=true
section
variable {P:Program}{w:World}{K:PySem.W.Frag}{mg:Str->Option Value}{base:Heap}
theorem Fun.ok {x qual:Str}{st:Stmt}{f:Addr}{fd:FuncData}{N ps:List Str}{k:Nat}{sp:Sp}(F:Fun K x qual st f fd) (S:FnScope N ps (ah st)) (len:∀ vs H Q E,sp vs H Q E->vs.length=ps.length)
 (hbody:∀ (cdv:Value) (A:Around) (outer:List Env) (s:Shared) (H:Hp) (vs:List V) (Q:VK) (E:XK),Room k (A.deeper (envOfC qual (ah st) s.heap.objs.size f cdv))->sp vs H Q E ->
  ∃ t,PSs (C2 CX0 P w K mg base N qual (ah st) f cdv A outer s H E).nox (eI st) t/\t { nx:=λ_ H'=>Q .non H',rt:=Q } (rN N vs) H):FnOk P w K mg base CX0 (k+1) f fd ps sp:=by
 obtain⟨oc,od,kV,doc,pm,an,cdv,ct,osl,rfl,lk,hcd⟩:=F.ex;refine Eu lk hcd S len λA outer s H vs Q E hr hsp=>?_
 obtain⟨t,h,q⟩:=hbody cdv A outer s H vs Q E hr hsp;exact⟨t,h.nox,q⟩
theorem Fun.binds {x qual:Str}{st:Stmt}{f:Addr}{fd:FuncData}{ps:List Str}(F:Fun K x qual st f fd)
 (h:∀ (kV doc pm:Value) (an:Option Addr) (cdv ct:Value) (us:List Value),us.length=ps.length->bindArgs (fnOf x qual (fq st) (eI st) (ah st) .none kV doc pm an cdv ct) ⟨us,[]⟩=pure (ps.zip us)):aC K fd ps []:=by
 obtain⟨oc,od,kV,doc,pm,an,cdv,ct,osl,rfl,lk,hcd⟩:=F.ex;exact .all (h kV doc pm an cdv ct)
theorem fun_mk {x qual:Str}{st:Stmt}{f:Addr}{oc:Value}{od an:Option Addr}{osl:Array (Option Value)}{kV doc pm cdv ct:Value}(l:K.lookup f=some ⟨oc,od,.func (fnOf x qual (fq st) (eI st) (ah st) .none kV doc pm an cdv ct),osl⟩)
 (c:codeIn K cdv qual=true) (k:keepIn K (.ref f)=true):Fun K x qual st f (fnOf x qual (fq st) (eI st) (ah st) .none kV doc pm an cdv ct):=⟨⟨oc,od,kV,doc,pm,an,cdv,ct,osl,rfl,l,c⟩,k⟩
end
theorem eZ {A:Around}{k:Nat}(hr:Room k A):A.units+1 < cLine:=lt_of_le_of_lt (Nat.add_le_add_left (by decide:1 <= 64) _) hr.units
section
variable {X:Cx}
theorem pv (i:Nat) {x:Str}{pos:Pos}(hN:X.N[i]?=some x:=by rfl) (hv:Vis X.env.scope x:=by first|exact Or.inl rfl|exact Or.inr (Or.inl rfl)|exact Or.inr (Or.inr rfl)) (hd:(x == ("__debug__":Str))=false:=by decide)
 (hcd:(x == ("__classdict__":Str))=false:=by decide):PE X (.Name x pos) (pc i):=Ep hN hv hd hcd
end
theorem cU {A B:Prop}(h:B):if false=true then A else B:=by
 rw[if_neg Bool.false_ne_true];exact h
theorem fX {A B:Prop}(h:A):if true=true then A else B:=by
 rw[if_pos rfl];exact h
theorem wI {c A B:Prop} [Decidable c] (h1:c->A) (h2:¬ c->B):if c then A else B:=by
 by_cases h:c
 . rw[if_pos h];exact h1 h
 . rw[if_neg h];exact h2 h
theorem F4 {c A B:Prop} [Decidable c] (hc:c) (h:B):if (!decide c)=true then A else B:=by
 rw[decide_eq_true hc];exact cU h
def bG (H H':Hp):Prop:=∀ b o,H b=some o->H' b=some o
theorem bG.refl (H:Hp):bG H H:=λ_ _ h=>h
theorem bG.trans {H H1 H2:Hp}(a:bG H H1) (b:bG H1 H2):bG H H2:=λc o h=>b c o (a c o h)
theorem bG.seq {K:PySem.W.Frag}{H H':Hp}{a:Addr}{xs:List V}(e:bG H H') (h:SqL K H a xs):SqL K H' a xs:=by
 rcases h with (h|⟨o,h⟩)|h
 . exact .inl (.inl (e _ _ h))
 . exact .inl (.inr ⟨o,e _ _ h⟩)
 . exact .inr h
section
variable {X:Cx}
end
section
variable {κ:Type} [DecidableEq κ]
end
theorem nB:bootBuiltins "int"=some (.type "int"):=by decide +kernel
theorem qS:bootBuiltins "bool"=some (.type "bool"):=by decide +kernel
theorem rq:bootBuiltins "list"=some (.type "list"):=by decide +kernel
theorem cn:bootBuiltins "tuple"=some (.type "tuple"):=by decide +kernel
theorem vI:bootBuiltins "str"=some (.type "str"):=by decide +kernel
theorem uw:bootBuiltins "reversed"=some (.type "reversed"):=by decide +kernel
theorem aH:bootBuiltins "isinstance"=some (.builtin "isinstance"):=by decide +kernel
theorem gR:bootBuiltins "len"=some (.builtin "len"):=by decide +kernel
section
variable {X:Cx}
theorem b7:mw X (.builtin "isinstance") (λxs H Q=>∃ x c t b,xs=[x,V.ty c]/\TyOf X.K H x t/\kitOne X.K t (.type c)=some b/\Q (.bl b) H):=by
 intro pins s σ H xs us Q I r h;obtain⟨x,c,t,b,rfl,ty,e,q⟩:=h;obtain⟨u,w',rfl,ru,rw⟩:=Fx r;cases rw;exact yD I ru ty e λtk=>⟨.bl b,H,I.tok _,rfl,q⟩
def FV (_i j:Int):Prop:=0 < j/\j < 2 ^ 40
theorem cp:OpR X (binaryOp .FloorDiv) (rI FV λi j=>.int (i / j)):=opI λi j _ _ _ _ _ hc q=>by
 have h1:(0:Int) < j:=hc.1;have h2:j < 2 ^ 40:=hc.2;refine floordiv_int (by omega) (by rw[Int.fdiv_eq_ediv_of_nonneg i (by omega)];exact q) (.inl (PyProof.noPylong_of_log2 ?_));have h3:j.natAbs≠0:=by omega
 have h4:j.natAbs.log2 < 40:=(Nat.log2_lt h3).mpr (by omega);omega
end
theorem ic {c A B:Prop} [Decidable c] (hc:c) (h:A):if c then A else B:=by
 rw[if_pos hc];exact h
theorem cf {c A B:Prop} [Decidable c] (hc:¬ c) (h:B):if c then A else B:=by
 rw[if_neg hc];exact h
theorem lv {i j:Int}(h0:0 <= i) (h1:i < 4294967296):FM i j:=.inl ⟨Int.lt_of_lt_of_le (by decide) h0,Int.lt_trans h1 (by decide)⟩
theorem FO {xs:List V}{i:Int}(h0:0 <= i) (h1:i < xs.length):∃ v,atI xs i=some v/\v∈xs:=by
 obtain⟨n,rfl⟩:=Int.eq_ofNat_of_zero_le h0;have hn:n < xs.length:=by omega
 exact⟨xs[n],DI (getElem?_eq_getElem hn),List.getElem_mem hn⟩
theorem ag {H:Hp}{p:Addr}{o:HO}(h:H p=none):bG H (upd H p o):=λb u e=>by
 rw[aa (ae e h)];exact e
section
variable {X:Cx}
end
end L2
set_option Elab.async false
set_option maxRecDepth 100000
set_option maxHeartbeats 4000000
namespace MX
open PySem PySem.W
mutual
def kd:PyData->Bool
|.int _=>true
|.str x=>PyData.strOk x
|.tuple xs=>kds xs
|.none=>false
|.bool _=>false
|.list _=>false
|.dict _=>false
def kds:List PyData->Bool
|[]=>true
|x :: xs=>kd x && kds xs
end
mutual
def hashD (w:World):PyData->Int
|.int i=>hashInt i
|.str x=>hashStr w x
|.tuple xs=>reduceHash (Builtin.Tuple.tupleHashOf (sm w xs))
|.none=>0
|.bool _=>0
|.list _=>0
|.dict _=>0
def sm (w:World):List PyData->List Int
|[]=>[]
|x :: xs=>hashD w x :: sm w xs
end
mutual
theorem kd_lay:∀ d:PyData,kd d=true->d.canLay0=true
|.int _,_=>rfl
|.str _,h=>h
|.tuple xs,h=>yo xs h
|.none,h=>by cases h
|.bool _,h=>by cases h
|.list _,h=>by cases h
|.dict _,h=>by cases h
theorem yo:∀ xs:List PyData,kds xs=true->PyData.canLayAll0 xs=true
|[],_=>rfl
|x :: xs,h=>by
  have h':(kd x && kds xs)=true:=h;rw[and_eq_true]at h';show (x.canLay0 && PyData.canLayAll0 xs)=true;rw[kd_lay x h'.1,yo xs h'.2];rfl
end
theorem Cp {p q:Prop}(h1:¬ p) (h2:¬ q):p ↔ q:=⟨λz=>(h1 z).elim,λz=>(h2 z).elim⟩
mutual
theorem eqv_iff:∀ d e:PyData,kd d=true->kd e=true->(PyData.eqv d e=true ↔ d=e)
|.int a,.int b,_,_=>by
  show (a == b)=true ↔ _;rw[beq_iff_eq];exact⟨λz=>by rw[z],λz=>by injection z⟩
|.str a,.str b,_,_=>by
  show (a == b)=true ↔ _;rw[beq_iff_eq];exact⟨λz=>by rw[z],λz=>by injection z⟩
|.tuple xs,.tuple ys,h1,h2=>by
  have q:=vk xs ys h1 h2;show PyData.eqvAll xs ys=true ↔ _;rw[q];exact⟨λz=>by rw[z],λz=>by injection z⟩
|.int _,.str _,_,_=>Cp (λz=>by cases z) (λz=>by cases z)
|.int _,.tuple _,_,_=>Cp (λz=>by cases z) (λz=>by cases z)
|.str _,.int _,_,_=>Cp (λz=>by cases z) (λz=>by cases z)
|.str _,.tuple _,_,_=>Cp (λz=>by cases z) (λz=>by cases z)
|.tuple _,.int _,_,_=>Cp (λz=>by cases z) (λz=>by cases z)
|.tuple _,.str _,_,_=>Cp (λz=>by cases z) (λz=>by cases z)
theorem vk:∀ xs ys:List PyData,kds xs=true->kds ys=true->(PyData.eqvAll xs ys=true ↔ xs=ys)
|[],[],_,_=>⟨λ_=>rfl,λ_=>rfl⟩
|[],_ :: _,_,_=>Cp (λz=>by cases z) (λz=>by cases z)
|_ :: _,[],_,_=>Cp (λz=>by cases z) (λz=>by cases z)
|x :: xs,y :: ys,h1,h2=>by
  have h1':(kd x && kds xs)=true:=h1;have h2':(kd y && kds ys)=true:=h2;rw[and_eq_true]at h1' h2';show (PyData.eqv x y && PyData.eqvAll xs ys)=true ↔ _;rw[and_eq_true,eqv_iff x y h1'.1 h2'.1,vk xs ys h1'.2 h2'.2];exact⟨λz=>by rw[z.1,z.2],λz=>by injection z with a b;exact⟨a,b⟩⟩
end
section
variable {prog:Program}{w:World}{E:Value->Shared->Prop}
mutual
theorem uk:∀ (k:PyData) (v:Value) (as:List Addr) (A:Around) (s:Shared) (Q:Int->Shared->Prop),kd k=true->Reads s.heap v k as->A.units+k.depth < cLine ->
 (∀ tk,Q (hashD w k) { s with toks:=tk })->wpAny (model prog w) A (pyHash v) Q E s
|.int i,_,_,A,s,Q,_,x,_,h=>by cases x;exact wpAny_pyHash_int (h _)
|.str y,_,_,A,s,Q,_,x,_,h=>by cases x;exact wpAny_pyHash_str (h _)
|.tuple xs,_,_,A,s,Q,hk,x,hu,h=>by
  cases x with
 |@tuple a o vs n _ _ hg hc hdt hw =>
   refine pyHash_slot (T:="tuple") ⟨_,hg,hc⟩ F.slot_tuple_hash F.entry_tuple_hash (F.args_tuple_hash_1 _) (beq_builtin_none _) (.inr (lt_of_le_of_lt (Nat.le_add_right _ _) hu)) ?_;show wpAny _ _ (Builtin.Tuple.tupleItemsOf (.ref a) >>= _) _ _ s;refine wpAny_bind (wpAny_tupleItemsOf hg hdt (wpAny_bind ?_));rw[<-Array.forIn_toList];refine vY xs _ _ A.in1 s #[] _ hk hw (by simp only[PyData.depth,Around.in1_units]at hu |-;omega) λtk b hb=>?_
   show wpAny _ _ (retInt (Builtin.Tuple.tupleHashOf b.toList)) _ _ _;rw[hb];exact wpAny_bind (wpAny_mkInt (wpAny_pure ⟨_,_,rfl,h _⟩))
|.none,_,_,_,_,_,h,_,_,_=>by cases h
|.bool _,_,_,_,_,_,h,_,_,_=>by cases h
|.list _,_,_,_,_,_,h,_,_,_=>by cases h
|.dict _,_,_,_,_,_,h,_,_,_=>by cases h
theorem vY:∀ (xs:List PyData) (vs:List Value) (as:List Addr) (A:Around) (s:Shared) (b:Array Int) (Q:Array Int->Shared->Prop),kds xs=true->ReadsAll s.heap vs xs as->A.units+PyData.depthAll xs < cLine ->
 (∀ tk b',b'.toList=b.toList++sm w xs->Q b' { s with toks:=tk }) ->
 wpAny (model prog w) A (forIn vs b λx r=>do let h <-pyHash x;pure PUnit.unit;pure (ForInStep.yield (r.push h))) Q E s
|[],_,_,A,s,b,Q,_,x,_,h=>by cases x;exact wpAny_pure (h s.toks b (by simp[sm]))
|k :: xs,_,_,A,s,b,Q,hk,x,hu,h=>by
  cases x with
 |cons x1 x2 =>
   have hk':(kd k && kds xs)=true:=hk;rw[and_eq_true]at hk';simp only[PyData.depthAll]at hu;rw[forIn_cons];refine wpAny_bind (wpAny_bind (uk k _ _ A s _ hk'.1 x1 (by omega) λtk=>wpAny_bind (wpAny_pure (wpAny_pure ?_))));exact vY xs _ _ A _ _ Q hk'.2 x2 (by omega) λtk' b' hb=>h tk' b' (by simp[hb,sm])
end
theorem vQ:∀ (n:Nat) (k:PyData) (v:Value) (as:List Addr) (A:Around) (s:Shared) (Q:Bool->Shared->Prop),kd k=true->Reads s.heap v k as->k.depth <= n ->
 Q true s->wpAny (model prog w) A (eqIsQuiet n v) Q E s:=by
 intro n
 induction n with
|zero =>
  intro k v as A s Q hk x hu h;cases x with
 |int i t=>rw[eqIsQuiet_byValue 0 rfl];exact wpAny_pure h
 |str i t=>rw[eqIsQuiet_byValue 0 rfl];exact wpAny_pure h
 |tuple=>simp only[PyData.depth]at hu;omega
 |none=>cases hk
 |bool=>cases hk
 |list=>cases hk
 |dict=>cases hk
|succ n ih =>
  intro k v as A s Q hk x hu h;cases x with
 |int i t=>rw[eqIsQuiet_byValue _ rfl];exact wpAny_pure h
 |str i t=>rw[eqIsQuiet_byValue _ rfl];exact wpAny_pure h
 |none=>cases hk
 |bool=>cases hk
 |list=>cases hk
 |dict=>cases hk
 |@tuple a o vs m xs _ hg hc hdt hw =>
   have hT:s.TypeIs (.ref a) "tuple":=⟨_,hg,hc⟩
   unfold eqIsQuiet;refine wpAny_bind (wpAny_specialOf hT F.slot_tuple_eq.lookup ?_);show wpAny _ _ (isInstance (.ref a) (.type "tuple") >>= _) _ _ s;refine wpAny_bind (wpAny_isInstance hT isSubtype_tuple_tuple ?_);simp only[Bool.not_true,false_eq_true,if_false];refine wpAny_bind (wpAny_seqItems hg hdt (wpAny_bind ?_));show wpAny _ _ (forIn vs _ _) _ _ s;rw[<-Array.forIn_toList];refine wpAny_forIn_list _ (λrest r s'=>r.1=none/\s'=s/\∃ ys bs,ReadsAll s.heap rest ys bs/\kds ys=true/\PyData.depthAll ys <= n) _ ?_ ?_ _ _
    ⟨rfl,rfl,xs,_,hw,hk,by simp only[PyData.depth]at hu;omega⟩
   . rintro y rest r s' ⟨hr,rfl,ys,bs,rd,hks,hdp⟩;cases rd with
    |@cons _ _ d ds _ _ r1 r2 =>
      have hks':(kd d && kds ds)=true:=hks;rw[and_eq_true]at hks';simp only[PyData.depthAll]at hdp;refine wpAny_bind (ih d _ _ A _ _ hks'.1 r1 (by omega) ?_);simp only[Bool.not_true,false_eq_true,if_false];exact wpAny_pure ⟨rfl,rfl,ds,_,r2,hks'.2,by omega⟩
   . rintro⟨r1,r2⟩ s' ⟨hr,rfl,_⟩;simp only at hr;subst hr;exact wpAny_pure h
def Ent (w:World) (h:Heap) (k:PyData) (e:DictEntry):Prop:=kd k=true/\k.depth <= 8/\(∃ as,Reads h e.key k as)/\e.hash=hashD w k
def Ask (h:Heap) (k:PyData) (v:Value):Prop:=kd k=true/\k.depth <= 8/\(∃ as,Reads h v k as)/\((∃ x t,v=.str x t)\/∃ a,v=.ref a)
abbrev Ents (w:World) (h:Heap) (ks:List PyData) (es:List DictEntry):Prop:=Paired (Ent w h) ks es
theorem f2_get {α β:Type}{R:α->β->Prop}:∀ {xs:List α}{ys:List β},Paired R xs ys->∀ (j:Nat) (y:β),ys[j]?=some y->∃ x,xs[j]?=some x/\R x y
|_,_,.nil,j,y,h=>by simp at h
|_,_,.cons r t,0,y,h=>by simp at h;subst h;exact⟨_,rfl,r⟩
|_,_,.cons r t,j+1,y,h=>by
  obtain⟨x,e,q⟩:=f2_get t j y (by simpa using h);exact⟨x,by simpa using e,q⟩
theorem f2_get' {α β:Type}{R:α->β->Prop}:∀ {xs:List α}{ys:List β},Paired R xs ys->∀ (j:Nat) (x:α),xs[j]?=some x->∃ y,ys[j]?=some y/\R x y
|_,_,.nil,j,y,h=>by simp at h
|_,_,.cons r t,0,y,h=>by simp at h;subst h;exact⟨_,rfl,r⟩
|_,_,.cons r t,j+1,y,h=>by
  obtain⟨x,e,q⟩:=f2_get' t j y (by simpa using h);exact⟨x,by simpa using e,q⟩
theorem wA {n:Nat}{f:Nat->Option Int}{h:Int}{j:Nat}(hj:j < n) (e:f j=some h):j∈placesWithHash n f h:=by
 unfold placesWithHash;exact mem_filter.mpr ⟨mem_range.mpr hj,by rw[e];simp⟩
theorem ot {n:Nat}{f:Nat->Option Int}{h:Int}{j:Nat}(hj:j∈placesWithHash n f h):j < n:=by
 unfold placesWithHash at hj;exact mem_range.mp (mem_filter.mp hj).1
theorem u7 {n:Nat}{f:Nat->Option Int}{h:Int}:(placesWithHash n f h).Nodup:=by
 unfold placesWithHash;exact Nodup.sublist List.filter_sublist List.nodup_range
theorem EZ {α:Type}{xs:List α}(hn:xs.Nodup) {i j:Nat}{k:α}(hi:xs[i]?=some k) (hj:xs[j]?=some k):i=j :=
 (List.getElem?_inj (List.getElem?_eq_some_iff.mp hi).1 hn).mp (hi.trans hj.symm)
variable {A:Around}{s:Shared}
theorem BS {d:Addr}{o:Obj}{es:Array DictEntry}{ep:Nat}{ks:List PyData}{k:PyData}{key:Value}{Q:Option Nat->Shared->Prop}(hu:A.units+8 < cLine) (hk:Ask s.heap k key)
 (ho:s.heap.get? d=some o) (hd:o.data=.dict es ep) (hes:Ents w s.heap ks es.toList) (hn:ks.Nodup) (hnone:k ∉ ks->Q none s) (hsome:∀ j:Nat,ks[j]?=some k->Q (some j) s) :
 wpAny (model prog w) A (dictFind d key (hashD w k)) Q E s:=by
 obtain⟨kk,kdp,⟨as,kr⟩,ksh⟩:=hk;have hget:∀ (j:Nat) (e:DictEntry),es[j]?=some e->∃ k',ks[j]?=some k'/\Ent w s.heap k' e:=λj e h=>f2_get hes j e (by rw[Array.getElem?_toList];exact h)
 have hget':∀ (j:Nat) (k':PyData),ks[j]?=some k'->∃ e,es[j]?=some e/\Ent w s.heap k' e:=λj k' h=>by
  obtain⟨e,h1,h2⟩:=f2_get' hes j k' h;exact⟨e,by rw[<-Array.getElem?_toList];exact h1,h2⟩
 have hplace:∀ j:Nat,ks[j]?=some k->j∈placesWithHash es.size (λi=>es[i]?.map (·.hash)) (hashD w k):=λj h=>by
  obtain⟨e,h1,_,_,_,h2⟩:=hget' j k h;exact wA (Array.getElem?_eq_some_iff.mp h1).1 (by rw[h1,<-h2];rfl)
 have heq:∀ (k':PyData) (e:DictEntry) (R:Bool->Shared->Prop),Ent w s.heap k' e->(k'=k->R true s)->(k'≠k->R false s)->wpAny (model prog w) A (eqBool e.key key) R E s:=λk' e R h h1 h2=>by
  obtain⟨ek,ed,⟨bs,er⟩,_⟩:=h;refine SeqAt.eqAt_reads k' k A s _ _ _ _ er kr (kd_lay _ ek) (kd_lay _ kk) (by omega) prog w E R ?_;by_cases z:k'=k
  . rw[(eqv_iff k' k ek kk).mpr z];exact h1 z
  . have:PyData.eqv k' k=false:=by
     cases q:PyData.eqv k' k with
    |false=>rfl
    |true=>exact absurd ((eqv_iff k' k ek kk).mp q) z
    rw[this];exact h2 z
 have none_of:(∀ j:Nat,ks[j]?=some k->j∈([]:List Nat))->Q none s:=λh=>hnone λm=>by
  obtain⟨j,hj⟩:=List.mem_iff_getElem?.mp m;exact absurd (h j hj) (by simp)
 have plain:wpAny (model prog w) A (dictWalkPlain d key (hashD w k) es (placesWithHash es.size (λi=>es[i]?.map (·.hash)) (hashD w k))) Q E s:=by
  refine wpAny_bind ?_;refine wpAny_forIn_list _ (λrest b s'=>s'=s/\b=(none,())/\(∀ j:Nat,ks[j]?=some k->j∈rest)/\∀ j∈rest,j < es.size) _ ?_ ?_ _ _ ⟨rfl,rfl,hplace,λj=>ot⟩
  . rintro x rest b s' ⟨rfl,rfl,hin,hlt⟩;have hx:=hlt x mem_cons_self;have hlt':∀ j∈rest,j < es.size:=λj hj=>hlt j (mem_cons_of_mem _ hj)
    obtain⟨k',hk',he⟩:=hget x es[x] (Array.getElem?_eq_getElem hx);have next:k'≠k->∀ j:Nat,ks[j]?=some k->j∈rest:=λz j hj=>by
     rcases mem_cons.mp (hin j hj) with q|q
     . subst q;rw[hk']at hj;exact absurd (Option.some.inj hj) z
     . exact q
    simp only[Array.getElem?_eq_getElem hx];by_cases hh:(es[x].hash == hashD w k)=true
    . rw[if_pos hh];refine wpAny_bind (wpAny_dictEpoch ho hd (wpAny_bind (heq k' es[x] _ he (λz=>wpAny_bind (wpAny_dictEpoch ho hd ?_)) (λz=>wpAny_bind (wpAny_dictEpoch ho hd ?_)))))
      . show wpAny _ _ (if (ep != ep)=true then _ else _) _ E _;rw[if_neg (by simp)];exact wpAny_bind (wpAny_rule (wpAny_pure (wpAny_pure (hsome x (z ▸ hk')))))
      . show wpAny _ _ (if (ep != ep)=true then _ else _) _ E _;rw[if_neg (by simp)];exact wpAny_bind (wpAny_rule (wpAny_pure ⟨rfl,rfl,next z,hlt'⟩))
    . rw[if_neg hh];refine wpAny_pure ⟨rfl,rfl,next λz=>hh ?_,hlt'⟩;rw[he.2.2.2,z];simp
  . rintro b s' ⟨rfl,rfl,hin,_⟩;exact wpAny_pure (none_of hin)
 have hstored:∀ v∈(placesWithHash es.size (λi=>es[i]?.map (·.hash)) (hashD w k)).filterMap (λi=>es[i]?.map (·.key)),∃ k' bs,kd k'=true/\k'.depth <= 8/\Reads s.heap v k' bs:=λv hv=>by
  obtain⟨i,_,hi⟩:=mem_filterMap.mp hv;cases q:es[i]? with
 |none=>rw[q]at hi;cases hi
 |some e =>
   rw[q]at hi;have z:e.key=v:=by simpa using hi
   obtain⟨k',_,h1,h2,⟨bs,h3⟩,_⟩:=hget i e q;exact⟨k',bs,h1,h2,z ▸ h3⟩
 have htell:∀ (R:Bool->Shared->Prop),R false s->wpAny (model prog w) A (tableMayTell key ((placesWithHash es.size (λi=>es[i]?.map (·.hash)) (hashD w k)).filterMap (λi=>es[i]?.map (·.key)))) R E s:=λR h=>by
  unfold tableMayTell;split
  . exact wpAny_pure h
  . refine wpAny_bind (vQ 8 k key _ A s _ kk kr kdp ?_);simp only[Bool.not_true,false_eq_true,if_false];refine wpAny_bind ?_;refine wpAny_forIn_list _ (λrest r s'=>s'=s/\r=(none,())/\∀ v∈rest,∃ k' bs,kd k'=true/\k'.depth <= 8/\Reads s.heap v k' bs) _ ?_ ?_ _ _ ⟨rfl,rfl,hstored⟩
    . rintro x rest r s' ⟨rfl,rfl,hr⟩;obtain⟨k',bs,h1,h2,h3⟩:=hr x mem_cons_self;refine wpAny_bind (vQ 8 k' x _ A _ _ h1 h3 h2 ?_);simp only[Bool.not_true,false_eq_true,if_false];exact wpAny_pure ⟨rfl,rfl,λv hv=>hr v (mem_cons_of_mem _ hv)⟩
    . rintro r s' ⟨rfl,rfl,_⟩;exact wpAny_pure h
 have hany:∀ a:Addr,key=.ref a->¬ (es.any λe=>e.key == Value.ref a && e.hash != hashD w k)=true:=by
  rintro a rfl h;rw[<-Array.any_toList,any_eq_true]at h;obtain⟨e,hin,hc⟩:=h;obtain⟨j,hj⟩:=List.mem_iff_getElem?.mp hin;obtain⟨k',hk',h1,h2,⟨bs,h3⟩,h4⟩:=hget j e (by rw[<-Array.getElem?_toList];exact hj);rw[and_eq_true]at hc;have z1:e.key=.ref a:=beq_iff_eq.mp hc.1;rw[z1]at h3;have z2:=SeqAt.Reads.unique k' k _ _ _ (kd_lay _ h1) h3 kr;rw[h4,z2]at hc;simp at hc
 unfold dictFind;refine wpAny_holding ?_;refine wpAny_bind (wpAny_dictEntries ho hd ?_);dsimp only;rcases ksh with⟨x,t,rfl⟩|⟨a,rfl⟩
 . dsimp only;by_cases hstr:(es.all λe=>isExactStrKey e.key)=true
   . rw[if_pos hstr];unfold foundByValue;have kx:k=.str x:=by cases kr;rfl
     have hkey:∀ (j:Nat) (e:DictEntry),es[j]?=some e->∃ k',ks[j]?=some k'/\Ent w s.heap k' e/\(e.key.isStr x=true ↔ k'=k):=λj e h=>by
      obtain⟨k',h1,h2⟩:=hget j e h;refine⟨k',h1,h2,?_⟩;have hs:isExactStrKey e.key=true:=by
       have q:=Array.all_eq_true.mp hstr;obtain⟨hl,he⟩:=Array.getElem?_eq_some_iff.mp h;have:=q j hl;rw[he]at this;exact this
      obtain⟨_,_,⟨bs,h3⟩,_⟩:=h2;cases hv:e.key with
     |str y u =>
       rw[hv]at h3;cases h3;show (y == x)=true ↔ _;rw[kx,beq_iff_eq];exact⟨λz=>by rw[z],λz=>by injection z⟩
     |_=>rw[hv]at hs;cases hs
     cases hf:es.findIdx? (λe=>e.key.isStr x) with
    |none =>
      refine wpAny_pure (hnone λm=>?_);obtain⟨j,hj⟩:=List.mem_iff_getElem?.mp m;obtain⟨e,he,_⟩:=hget' j k hj;obtain⟨k',h1,_,h2⟩:=hkey j e he;rw[hj]at h1;have h3:=Array.findIdx?_eq_none_iff.mp hf e (Array.mem_of_getElem? he);rw[h2.mpr (Option.some.inj h1).symm]at h3;cases h3
    |some i =>
      obtain⟨hlt,hi,_⟩:=Array.findIdx?_eq_some_iff_getElem.mp hf;obtain⟨k',h1,h2,h3⟩:=hkey i es[i] (Array.getElem?_eq_getElem hlt);have z:k'=k:=h3.mp hi;simp only[Array.getElem?_eq_getElem hlt];refine wpAny_bind (wpAny_dictEpoch ho hd (wpAny_bind (heq k' es[i] _ h2 (λ_=>wpAny_bind (wpAny_dictEpoch ho hd ?_)) (λq=>absurd z q))));rw[if_neg (by simp)];simp only[if_true];exact wpAny_bind (wpAny_rule (wpAny_pure (hsome i (z ▸ h1))))
   . rw[if_neg hstr];by_cases hall:((Value.str x t :: (placesWithHash es.size (λi=>es[i]?.map (·.hash)) (hashD w k)).filterMap (λi=>es[i]?.map (·.key))).all carriedByValue)=true
     . rw[if_pos hall];exact plain
     . rw[if_neg hall];by_cases hone:(((placesWithHash es.size (λi=>es[i]?.map (·.hash)) (hashD w k)).filterMap (λi=>es[i]?.map (·.key))) == [Value.str x t])=true
       all_goals
        first
        |(rw[if_pos hone];refine wpAny_bind (wpAny_pure ?_))
        |(rw[if_neg hone];refine wpAny_bind (htell _ ?_))
        rw[if_neg (by simp)];refine wpAny_bind (wpAny_forIn_list _ (λrest b s'=>s'=s/\∃ hit,b=(none,hit)/\((hit=none/\∀ j:Nat,ks[j]?=some k->j∈rest)\/∃ j,hit=some j/\ks[j]?=some k/\j ∉ rest)/\(∀ j∈rest,j < es.size)/\rest.Nodup) _ ?_ ?_ _ _
         ⟨rfl,none,rfl,.inl ⟨rfl,hplace⟩,λj=>ot,u7⟩)
        . rintro x rest b s' ⟨rfl,hit,rfl,hin,hlt,hnd⟩;have hx:=hlt x mem_cons_self;have hlt':∀ j∈rest,j < es.size:=λj hj=>hlt j (mem_cons_of_mem _ hj)
          obtain⟨hxr,hnd'⟩:=nodup_cons.mp hnd;obtain⟨k',hk',he⟩:=hget x es[x] (Array.getElem?_eq_getElem hx);have next:k'≠k->((hit=none/\∀ j:Nat,ks[j]?=some k->j∈rest)\/∃ j,hit=some j/\ks[j]?=some k/\j ∉ rest):=λz=>by
           rcases hin with⟨h0,hin⟩|⟨j,h0,hj,hjr⟩
           . refine .inl ⟨h0,λj hj=>?_⟩;rcases mem_cons.mp (hin j hj) with q|q
             . subst q;rw[hk']at hj;exact absurd (Option.some.inj hj) z
             . exact q
           . exact .inr ⟨j,h0,hj,λq=>hjr (mem_cons_of_mem _ q)⟩
          simp only[Array.getElem?_eq_getElem hx];by_cases hh:(es[x].hash == hashD w k)=true
          . rw[if_pos hh];refine wpAny_bind (wpAny_dictEpoch ho hd (wpAny_bind (heq k' es[x] _ he (λz=>wpAny_bind (wpAny_dictEpoch ho hd ?_)) (λz=>wpAny_bind (wpAny_dictEpoch ho hd ?_)))))
            . rw[if_neg (by simp)];have hkx:ks[x]?=some k:=z ▸ hk';rcases hin with⟨rfl,hin⟩|⟨j,_,hj,hjr⟩
              . simp only[isSome_none,false_eq_true,if_false,if_true];refine wpAny_bind (wpAny_rule ?_);split
                . exact wpAny_pure (wpAny_pure (hsome x hkx))
                . exact wpAny_pure ⟨rfl,some x,rfl,.inr ⟨x,rfl,hkx,hxr⟩,hlt',hnd'⟩
              . exact absurd (EZ hn hj hkx ▸ mem_cons_self) hjr
            . rw[if_neg (by simp)];simp only[false_eq_true,if_false];refine wpAny_bind (wpAny_rule ?_)
              try rw[if_neg (by simp)]
              exact wpAny_pure ⟨rfl,hit,rfl,next z,hlt',hnd'⟩
          . rw[if_neg hh];refine wpAny_pure ⟨rfl,hit,rfl,next λz=>hh ?_,hlt',hnd'⟩;rw[he.2.2.2,z];simp
        . rintro b s' ⟨rfl,hit,rfl,hin,_⟩;rcases hin with⟨rfl,hin⟩|⟨j,rfl,hj,_⟩
          . exact wpAny_pure (none_of hin)
          . exact wpAny_pure (hsome j hj)
 . dsimp only;rw[if_neg (show ¬ ((Value.ref a :: (placesWithHash es.size (λi=>es[i]?.map (·.hash)) (hashD w k)).filterMap (λi=>es[i]?.map (·.key))).all carriedByValue)=true from by simp[carriedByValue]),if_neg (hany a rfl)];by_cases hone:(((placesWithHash es.size (λi=>es[i]?.map (·.hash)) (hashD w k)).filterMap (λi=>es[i]?.map (·.key))) == [Value.ref a])=true
   all_goals
    first
    |(rw[if_pos hone];refine wpAny_bind (wpAny_pure ?_))
    |(rw[if_neg hone];refine wpAny_bind (htell _ ?_))
    rw[if_neg (by simp)];refine wpAny_bind (wpAny_forIn_list _ (λrest b s'=>s'=s/\∃ hit,b=(none,hit)/\((hit=none/\∀ j:Nat,ks[j]?=some k->j∈rest)\/∃ j,hit=some j/\ks[j]?=some k/\j ∉ rest)/\(∀ j∈rest,j < es.size)/\rest.Nodup) _ ?_ ?_ _ _
     ⟨rfl,none,rfl,.inl ⟨rfl,hplace⟩,λj=>ot,u7⟩)
    . rintro x rest b s' ⟨rfl,hit,rfl,hin,hlt,hnd⟩;have hx:=hlt x mem_cons_self;have hlt':∀ j∈rest,j < es.size:=λj hj=>hlt j (mem_cons_of_mem _ hj)
      obtain⟨hxr,hnd'⟩:=nodup_cons.mp hnd;obtain⟨k',hk',he⟩:=hget x es[x] (Array.getElem?_eq_getElem hx);have next:k'≠k->((hit=none/\∀ j:Nat,ks[j]?=some k->j∈rest)\/∃ j,hit=some j/\ks[j]?=some k/\j ∉ rest):=λz=>by
       rcases hin with⟨h0,hin⟩|⟨j,h0,hj,hjr⟩
       . refine .inl ⟨h0,λj hj=>?_⟩;rcases mem_cons.mp (hin j hj) with q|q
         . subst q;rw[hk']at hj;exact absurd (Option.some.inj hj) z
         . exact q
       . exact .inr ⟨j,h0,hj,λq=>hjr (mem_cons_of_mem _ q)⟩
      simp only[Array.getElem?_eq_getElem hx];by_cases hh:(es[x].hash == hashD w k)=true
      . rw[if_pos hh];refine wpAny_bind (wpAny_dictEpoch ho hd (wpAny_bind (heq k' es[x] _ he (λz=>wpAny_bind (wpAny_dictEpoch ho hd ?_)) (λz=>wpAny_bind (wpAny_dictEpoch ho hd ?_)))))
        . rw[if_neg (by simp)];have hkx:ks[x]?=some k:=z ▸ hk';rcases hin with⟨rfl,hin⟩|⟨j,_,hj,hjr⟩
          . simp only[isSome_none,false_eq_true,if_false,if_true];refine wpAny_bind (wpAny_rule ?_);split
            . exact wpAny_pure (wpAny_pure (hsome x hkx))
            . exact wpAny_pure ⟨rfl,some x,rfl,.inr ⟨x,rfl,hkx,hxr⟩,hlt',hnd'⟩
          . exact absurd (EZ hn hj hkx ▸ mem_cons_self) hjr
        . rw[if_neg (by simp)];simp only[false_eq_true,if_false];refine wpAny_bind (wpAny_rule ?_)
          try rw[if_neg (by simp)]
          exact wpAny_pure ⟨rfl,hit,rfl,next z,hlt',hnd'⟩
      . rw[if_neg hh];refine wpAny_pure ⟨rfl,hit,rfl,next λz=>hh ?_,hlt',hnd'⟩;rw[he.2.2.2,z];simp
    . rintro b s' ⟨rfl,hit,rfl,hin,_⟩;rcases hin with⟨rfl,hin⟩|⟨j,rfl,hj,_⟩
      . exact wpAny_pure (none_of hin)
      . exact wpAny_pure (hsome j hj)
def DictE (h:Heap) (d:Addr) (es:List DictEntry) (ep:Nat):Prop:=∃ o,h.get? d=some o/\o.ExactDict/\o.data=.dict es.toArray ep
def iF (h:Heap) (d:Addr) (es:List DictEntry):Prop:=∃ o ep,h.get? d=some o/\o.ExactDict/\o.data=.dict es.toArray ep
theorem iF.ep {h:Heap}{d:Addr}{es:List DictEntry}(x:iF h d es):∃ ep,DictE h d es ep:=let ⟨o,ep,e⟩:=x;⟨ep,o,e⟩
theorem DictE.es {h:Heap}{d:Addr}{es:List DictEntry}{ep:Nat}(x:DictE h d es ep):iF h d es:=let ⟨o,e⟩:=x;⟨o,ep,e⟩
theorem DictE.typeIs {s:Shared}{d:Addr}{es:List DictEntry}{ep:Nat}(x:DictE s.heap d es ep):s.TypeIs (.ref d) "dict":=let ⟨o,ho,hc,_⟩:=x;⟨o,ho,hc.1⟩
theorem iF.typeIs {s:Shared}{d:Addr}{es:List DictEntry}(x:iF s.heap d es):s.TypeIs (.ref d) "dict":=let ⟨o,_,ho,hc,_⟩:=x;⟨o,ho,hc.1⟩
theorem F6 {d:Addr}{es:List DictEntry}{ks:List PyData}{k:PyData}{key:Value}{Q:Option Value->Shared->Prop}(hu:A.units+8 < cLine) (hk:Ask s.heap k key)
 (hm:iF s.heap d es) (hes:Ents w s.heap ks es) (hn:ks.Nodup) (hnone:k ∉ ks->∀ tk,Q none { s with toks:=tk })
 (hsome:∀ (j:Nat) (e:DictEntry),ks[j]?=some k->es[j]?=some e->∀ tk,Q (some e.val) { s with toks:=tk }):wpAny (model prog w) A (dictGet d key) Q E s:=by
 obtain⟨o,ep,ho,hc,hd⟩:=hm;obtain⟨kk,kdp,⟨as,kr⟩,ksh⟩:=id hk;unfold dictGet;refine wpAny_holding (wpAny_bind (uk k key as A s _ kk kr (by omega) λtk=>wpAny_bind (BS (s:={ s with toks:=tk }) hu hk ho hd hes hn ?_ ?_)))
 . exact λh=>wpAny_pure (hnone h tk)
 . intro j hj;refine wpAny_bind (wpAny_dictEntries (s:={ s with toks:=tk }) ho hd ?_);obtain⟨e,he,_⟩:=f2_get' hes j k hj;have q:es.toArray[j]?=some e:=by rw[List.getElem?_toArray];exact he
   rw[q];exact wpAny_pure (hsome j e hj he tk)
theorem Gi {d:Addr}{es:List DictEntry}{ks:List PyData}{k:PyData}{key v:Value}{Q:Unit->Shared->Prop}(hu:A.units+8 < cLine) (hk:Ask s.heap k key)
 (hm:iF s.heap d es) (hes:Ents w s.heap ks es) (hn:ks.Nodup) (hsz:es.length <= sizeLine)
 (hQ:∀ (h':Heap) (tk:Nat) (es':List DictEntry),iF h' d es'->Heap.SameBut d s.heap h'->((k ∉ ks/\es'=es++[⟨hashD w k,key,v⟩])\/∃ j:Nat,ks[j]?=some k/\es'=es.modify j λe=>{ e with val:=v }) ->
  Q () { s with heap:=h',toks:=tk }):wpAny (model prog w) A (dictSet d key v) Q E s:=by
 obtain⟨o,ep,ho,hc,hd⟩:=hm;obtain⟨kk,kdp,⟨as,kr⟩,ksh⟩:=id hk;unfold dictSet;refine wpAny_holding (wpAny_bind (uk k key as A s _ kk kr (by omega) λtk=>?_));unfold dictSetHashed;refine wpAny_holding (wpAny_bind (BS (s:={ s with toks:=tk }) hu hk ho hd hes hn ?_ ?_))
 . intro h;refine wpAny_bind (wpAny_rule (wpAny_updateDictKeys (hz:=by simpa using hsz) (s:={ s with toks:=tk }) ho hd (hQ _ tk (es++[⟨hashD w k,key,v⟩]) ⟨_,ep+1,Heap.get?_update_self _ ho (Obj.isFreed_of_dict (Obj.data_mapDictKeys hd _)),hc.mapDictKeys _,?_⟩ (Heap.SameBut.update ..) (.inl ⟨h,rfl⟩))));rw[Obj.data_mapDictKeys hd _];simp
 . intro j hj;refine wpAny_bind (wpAny_rule (wpAny_bind (wpAny_updateDict (s:={ s with toks:=tk }) ho hd (wpAny_point (hQ _ tk (es.modify j λe=>{ e with val:=v }) ⟨_,ep,Heap.get?_update_self _ ho (Obj.isFreed_of_dict (Obj.data_mapDict hd _)),hc.mapDict _,?_⟩ (Heap.SameBut.update ..) (.inr ⟨j,hj,rfl⟩))))));rw[Obj.data_mapDict hd _];simp
theorem meets_D (d:Addr) (key dflt:Value) (hd:(d == sysModules)=false) :
 MeetsIn prog w (Builtin.«dict.get» ⟨[.ref d,key,dflt],[]⟩) (λA R s=>A.in1.units+8 < cLine/\∃ k ks es,Ask s.heap k key/\iF s.heap d es/\Ents w s.heap ks es/\ks.Nodup /\
  (k ∉ ks->∀ tk,R (.ok (.ret dflt)) { s with toks:=tk })/\∀ (j:Nat) (e:DictEntry),ks[j]?=some k->es[j]?=some e->∀ tk,R (.ok (.ret e.val)) { s with toks:=tk }) :=
 .of_wp λA R s ⟨hu,k,ks,es,hk,hm,hes,hn,h1,h2⟩=>by
  show wpAny _ _ (dictGet d key >>= _) _ _ s;refine wpAny_bind (F6 hu hk hm hes hn (λh tk=>?_) λj e hj he tk=>wpAny_pure ⟨_,rfl,h2 j e hj he tk⟩);show wpAny _ _ (Builtin.Dict.missed d key >>= _) _ _ _;exact wpAny_bind (wpAny_missed_other hd (wpAny_pure ⟨dflt,rfl,h1 h tk⟩))
theorem item_D {d:Addr}{es:List DictEntry}{ks:List PyData}{k:PyData}{key:Value}{Q:Value->Shared->Prop}(hu:A.in1.units+8 < cLine) (hk:Ask s.heap k key)
 (hm:iF s.heap d es) (hes:Ents w s.heap ks es) (hn:ks.Nodup) (hin:k∈ks)
 (hsome:∀ (j:Nat) (e:DictEntry),ks[j]?=some k->es[j]?=some e->∀ tk,Q e.val { s with toks:=tk }):wpAny (model prog w) A (getItem (.ref d) key) Q E s:=by
 unfold getItem;refine wpAny_holding (wpAny_bind (wpAny_sequenceKey hm.typeIs (by decide) (wpAny_bind (wpAny_callSpecial?_slot (name:=Str.ofString "__getitem__") hm.typeIs slot_dict_getitem
  (wpAny_call_entry slot_dict_getitem hm.typeIs entry_dict_getitem ?_ (args_dict_getitem _ _))))))
 show wpAny _ _ (dictGet d key >>= _) _ _ s;exact wpAny_bind (F6 hu hk hm hes hn (λh _=>absurd hin h) λj e hj he tk=>wpAny_pure ⟨_,rfl,wpAny_pure (hsome j e hj he tk)⟩)
theorem put_D {d:Addr}{es:List DictEntry}{ks:List PyData}{k:PyData}{key v:Value}{Q:Unit->Shared->Prop}(hu:A.in1.units+8 < cLine) (hk:Ask s.heap k key)
 (hm:iF s.heap d es) (hes:Ents w s.heap ks es) (hn:ks.Nodup) (hsz:es.length <= sizeLine)
 (hQ:∀ (h':Heap) (tk:Nat) (es':List DictEntry),iF h' d es'->Heap.SameBut d s.heap h'->((k ∉ ks/\es'=es++[⟨hashD w k,key,v⟩])\/∃ j:Nat,ks[j]?=some k/\es'=es.modify j λe=>{ e with val:=v }) ->
  Q () { s with heap:=h',toks:=tk }):wpAny (model prog w) A (setItem (.ref d) key v) Q E s:=by
 unfold setItem;refine wpAny_holding (wpAny_bind (wpAny_sequenceKey hm.typeIs (by decide) (wpAny_bind (wpAny_callSpecial?_slot (name:=Str.ofString "__setitem__") hm.typeIs slot_dict_setitem
  (wpAny_call_entry slot_dict_setitem hm.typeIs entry_dict_setitem ?_ (args_dict_setitem _ _ _))))))
 show wpAny _ _ (Builtin.Dict.notOrdered "__setitem__" ⟨[.ref d,key,v],[]⟩ >>= _) _ _ s;refine wpAny_bind (wpAny_notOrdered_dict hm.typeIs ?_);show wpAny _ _ (dictSet d key v >>= _) _ _ s;exact wpAny_bind (Gi hu hk hm hes hn hsz λh' tk es' a b c=>wpAny_pure ⟨.none,rfl,wpAny_pure (hQ h' tk es' a b c)⟩)
theorem keys_iter {d:Addr}{es:List DictEntry}{ep:Nat}{Q:Value->Shared->Prop}(hd:(d == sysModules)=false) (hm:DictE s.heap d es ep)
 (hQ:∀ h',h'.IsKeyIter s.heap.objs.size d 0 es.length ep->(∀ b o,s.heap.get? b=some o->h'.get? b=some o)->Q (.ref s.heap.objs.size) { s with heap:=h' }):wpAny (model prog w) A (pyIter (.ref d)) Q E s:=by
 obtain⟨o,ho,hc,hdat⟩:=id hm;refine wpAny_pyIter_slot hm.typeIs F.slot_dict_iter (wpAny_call_entry F.slot_dict_iter hm.typeIs F.entry_dict_iter ?_ (F.args_dict_iter_1 _));unfold Builtin.«dict.__iter__» Builtin.Dict.dictSlotNone;refine wpAny_bind (wpAny_bind (wpAny_notOrdered_dict hm.typeIs (wpAny_pure ?_)));have hne:¬ (d == sysModules)=true:=by rw[hd];decide
 unfold Builtin.Dict.showsAll;refine wpAny_bind (wpAny_of_eq (a:=d) rfl (wpAny_bind ?_));rw[if_neg hne];refine wpAny_pure (wpAny_bind (wpAny_dictEntries ho hdat (wpAny_bind (wpAny_dictEpoch ho hdat ?_))));refine wpAny_bind (wpAny_newObj_type (wpAny_pure ⟨_,rfl,"dict_keyiterator",_,⟨_,Heap.get?_push_size _ rfl,rfl⟩,F.slot_dict_keyiterator_next.lookup,?_⟩));exact hQ _ ⟨_,Heap.get?_push_size _ rfl,rfl,by simp[rawInt]⟩ λb o' e=>Heap.get?_push_of_some _ e
theorem keys_next {it d:Addr}{i ep:Nat}{es:List DictEntry}{e:DictEntry}{Q:Option Value->Shared->Prop}(hit:s.heap.IsKeyIter it d i es.length ep) (hm:DictE s.heap d es ep) (hx:es[i]?=some e)
 (hQ:∀ h',h'.IsKeyIter it d (i+1) es.length ep->Heap.SameBut it s.heap h'->Q (some e.key) { s with heap:=h' }):wpAny (model prog w) A (pyNext (.ref it)) Q E s:=by
 obtain⟨o,ho,hc,hd⟩:=id hit;obtain⟨od,hod,hcd,hdd⟩:=id hm;obtain⟨hlt,he⟩:=List.getElem?_eq_some_iff.mp hx;have hown:Builtin.Dict_items.ownsTuple "dict_keyiterator"=false:=by decide
 have hga:es.toArray[i]?=some e:=by rw[List.getElem?_toArray];exact hx
 unfold pyNext;refine wpAny_bind (wpAny_attempt (wpAny_callSpecial?_slot (name:=Str.ofString "__next__") hit.typeIs F.slot_dict_keyiterator_next (wpAny_call_entry F.slot_dict_keyiterator_next hit.typeIs F.entry_dict_keyiterator_next ?_ (F.args_dict_keyiterator_next_1 _))));refine wpAny_bind (wpAny_pure (wpAny_bind (wpAny_bind ?_)))
 first|refine wpAny_bind (wpAny_typeNameOfWhole_keyiter hit.typeIs (wpAny_pure (wpAny_bind (wpAny_fieldsOf ho hd ?_))))|refine wpAny_bind (wpAny_typeNameOf_keyiter hit.typeIs (wpAny_pure (wpAny_bind (wpAny_fieldsOf ho hd ?_))))
 simp only[hown,false_eq_true,if_false];show wpAny _ _ (if (Value.ref d == Value.none)=true then _ else _) _ _ s;rw[if_neg (show ¬ ((Value.ref d == Value.none)=true) from Bool.false_ne_true)];refine wpAny_bind (wpAny_pure (wpAny_bind (wpAny_dictEntries hod hdd ?_)));rw[if_neg (by simp)];refine wpAny_bind (wpAny_pure (wpAny_bind (wpAny_dictEpoch hod hdd ?_)));rw[if_neg (by simp)];refine wpAny_pure ?_;simp only[show ¬ ((i:Int) < 0) from by omega,if_false,toNat_natCast,hga];refine wpAny_bind ?_
 first|refine wpAny_bind (wpAny_typeNameOfWhole_keyiter hit.typeIs (wpAny_pure (wpAny_bind (wpAny_isOneOf_keyiter hit.typeIs ?_))))|refine wpAny_bind (wpAny_typeNameOf_keyiter hit.typeIs (wpAny_pure (wpAny_bind (wpAny_isOneOf_keyiter hit.typeIs ?_))))
 show wpAny _ _ (setField (.ref it) 1 (rawInt ((i:Int)+1)) >>= _) _ _ s;have hit2:(s.heap.update it (Obj.mapFields (·.setIfInBounds 1 (rawInt ((i:Int)+1))))).IsKeyIter it d (i+1) es.length ep:=by
  refine⟨_,Heap.get?_update_self _ ho (Obj.isFreed_of_fields (Obj.data_mapFields hd _)),(Obj.cls_mapFields ..).trans hc,?_⟩;rw[Obj.data_mapFields hd];simp[rawInt]
 refine wpAny_bind (wpAny_setField ho hd (by simp) (wpAny_bind (wpAny_holding ?_)));refine wpAny_bind (wpAny_isOneOf_keyiter (s:={ s with heap:=s.heap.update it (Obj.mapFields (·.setIfInBounds 1 (rawInt ((i:Int)+1)))) }) hit2.typeIs ?_);show wpAny _ _ (pure e.key) _ _ _;exact wpAny_pure (wpAny_pure ⟨_,rfl,wpAny_pure (hQ _ hit2 (Heap.SameBut.update ..))⟩)
theorem keys_end {it d:Addr}{i ep:Nat}{es:List DictEntry}{Q:Option Value->Shared->Prop}(hh:A.handled=none) (hit:s.heap.IsKeyIter it d i es.length ep) (hm:DictE s.heap d es ep) (hx:es.length <= i)
 (hQ:∀ h',Heap.ExtBut it s.heap h'->Q none { s with heap:=h' }):wpAny (model prog w) A (pyNext (.ref it)) Q E s:=by
 obtain⟨o,ho,hc,hd⟩:=id hit;obtain⟨od,hod,hcd,hdd⟩:=id hm;have hown:Builtin.Dict_items.ownsTuple "dict_keyiterator"=false:=by decide
 have hga:es.toArray[i]?=none:=by rw[List.getElem?_toArray];exact List.getElem?_eq_none hx
 unfold pyNext;refine wpAny_bind (wpAny_attempt (wpAny_callSpecial?_slot (name:=Str.ofString "__next__") hit.typeIs F.slot_dict_keyiterator_next (wpAny_call_entry F.slot_dict_keyiterator_next hit.typeIs F.entry_dict_keyiterator_next ?_ (F.args_dict_keyiterator_next_1 _))));refine wpAny_bind (wpAny_pure (wpAny_bind (wpAny_bind ?_)))
 first|refine wpAny_bind (wpAny_typeNameOfWhole_keyiter hit.typeIs (wpAny_pure (wpAny_bind (wpAny_fieldsOf ho hd ?_))))|refine wpAny_bind (wpAny_typeNameOf_keyiter hit.typeIs (wpAny_pure (wpAny_bind (wpAny_fieldsOf ho hd ?_))))
 simp only[hown,false_eq_true,if_false];show wpAny _ _ (if (Value.ref d == Value.none)=true then _ else _) _ _ s;rw[if_neg (show ¬ ((Value.ref d == Value.none)=true) from Bool.false_ne_true)];refine wpAny_bind (wpAny_pure (wpAny_bind (wpAny_dictEntries hod hdd ?_)));rw[if_neg (by simp)];refine wpAny_bind (wpAny_pure (wpAny_bind (wpAny_dictEpoch hod hdd ?_)));rw[if_neg (by simp)];refine wpAny_pure ?_;simp only[show ¬ ((i:Int) < 0) from by omega,if_false,toNat_natCast,hga];refine wpAny_bind ?_
 first|refine wpAny_bind (wpAny_typeNameOfWhole_keyiter hit.typeIs (wpAny_pure ?_))|refine wpAny_bind (wpAny_typeNameOf_keyiter hit.typeIs (wpAny_pure ?_))
 show wpAny _ _ (setField (.ref it) 0 .none >>= _) _ _ s;refine wpAny_bind (wpAny_setField ho hd (by simp) ?_);show wpAny _ _ (newExc (.type "StopIteration") [] >>= _) _ _ _;refine wpAny_bind ?_;simp only[newExc,newTuple];refine wpAny_bind (wpAny_newObj_type (wpAny_bind (m:=firstArgMember _ _) (wpAny_of_eq (a:=Value.none) (by first|rfl|(simp only[firstArgMember];rfl)) (wpAny_newObj_type ?_ (by size_fits)))) (by size_fits));simp only[raiseNew];refine wpAny_bind (wpAny_handled ?_);rw[show A.in1.handled=none from hh];refine wpAny_bind (wpAny_pure (wpAny_throw ?_));refine wpAny_bind (wpAny_isInstance (T:="StopIteration") (b:=true) ⟨_,Heap.get?_push_size _ rfl,rfl⟩ isSubtype_stop (wpAny_pure (hQ _ (((Heap.SameBut.update ..).extBut.push _).push _))))
end
end MX
namespace L2
open PySem PySem.Spec PyProof.Rows
mutual
def DV (H:Hp):PyData->V->Prop
|.none,x=>x=.non
|.bool b,x=>x=.bl b
|.int i,x=>x=.int i
|.str t,x=>x=.str t
|.list ds,x=>∃ (a:Addr) (vs:List V),x=.ref a/\H a=some (.lst vs)/\DVs H ds vs
|.tuple ds,x=>∃ (a:Addr) (vs:List V),x=.ref a/\H a=some (.tup vs)/\DVs H ds vs
|.dict _,_=>False
def DVs (H:Hp):List PyData->List V->Prop
|[],vs=>vs=[]
|d :: ds,vs=>∃ (v:V) (r:List V),vs=v :: r/\DV H d v/\DVs H ds r
end
section
variable {P:Program}{w:World}{H H':Hp}{h:Heap}
mutual
theorem DV.reads (ok:HOk P w H h):∀ (d:PyData) (x:V) (u:Value),DV H d x->bR x u->∃ as,Reads h u d as
|.none,_,_,e,r=>by cases e;cases r;exact⟨_,.none⟩
|.bool b,_,_,e,r=>by cases e;cases r;exact⟨_,.bool b⟩
|.int i,_,_,e,r=>by cases e;obtain⟨t,rfl⟩:=r;exact⟨_,.int i t⟩
|.str y,_,_,e,r=>by cases e;obtain⟨t,rfl⟩:=r;exact⟨_,.str y t⟩
|.list ds,_,_,e,r=>by
  obtain⟨a,vs,rfl,ha,hv⟩:=e;cases r;obtain⟨_,its,n,rv,hg⟩:=ok a _ ha;obtain⟨as,q⟩:=DVs.reads ok ds vs its hv rv;exact⟨_,.list hg rfl rfl (by simpa using q)⟩
|.tuple ds,_,_,e,r=>by
  obtain⟨a,vs,rfl,ha,hv⟩:=e;cases r;obtain⟨_,its,rv,o,hg,hc,n,hd⟩:=ok a _ ha;obtain⟨as,q⟩:=DVs.reads ok ds vs its hv rv;exact⟨_,.tuple hg hc hd (by simpa using q)⟩
|.dict _,_,_,e,_=>False.elim e
theorem DVs.reads (ok:HOk P w H h):∀ (ds:List PyData) (vs:List V) (us:List Value),DVs H ds vs->bC vs us->∃ as,ReadsAll h us ds as
|[],_,_,e,r=>by cases e;cases r;exact⟨_,.nil⟩
|d :: ds,_,_,e,r=>by
  obtain⟨v,vs,rfl,h1,h2⟩:=e;cases r with
 |cons r1 r2 =>
   obtain⟨as,q1⟩:=DV.reads ok d _ _ h1 r1;obtain⟨bs,q2⟩:=DVs.reads ok ds _ _ h2 r2;exact⟨_,.cons q1 q2⟩
end
mutual
theorem DV.mono (hs:∀ b vs,H b=some (.lst vs)->H' b=some (.lst vs)) (ht:∀ b vs,H b=some (.tup vs)->H' b=some (.tup vs)):∀ (d:PyData) (x:V),DV H d x->DV H' d x
|.none,_,e=>e
|.bool _,_,e=>e
|.int _,_,e=>e
|.str _,_,e=>e
|.list ds,_,⟨a,vs,e,ha,hv⟩=>⟨a,vs,e,hs _ _ ha,DVs.mono hs ht ds vs hv⟩
|.tuple ds,_,⟨a,vs,e,ha,hv⟩=>⟨a,vs,e,ht _ _ ha,DVs.mono hs ht ds vs hv⟩
|.dict _,_,e=>e
theorem DVs.mono (hs:∀ b vs,H b=some (.lst vs)->H' b=some (.lst vs)) (ht:∀ b vs,H b=some (.tup vs)->H' b=some (.tup vs)):∀ (ds:List PyData) (vs:List V),DVs H ds vs->DVs H' ds vs
|[],_,e=>e
|d :: ds,_,⟨v,r,e,h1,h2⟩=>⟨v,r,e,DV.mono hs ht d v h1,DVs.mono hs ht ds r h2⟩
end
mutual
theorem DV.keep (ht:∀ b vs,H b=some (.tup vs)->H' b=some (.tup vs)):∀ (d:PyData) (x:V),MX.kd d=true->DV H d x->DV H' d x
|.int _,_,_,e=>e
|.str _,_,_,e=>e
|.tuple ds,_,k,⟨a,vs,e,ha,hv⟩=>⟨a,vs,e,ht _ _ ha,DVs.keep ht ds vs k hv⟩
|.none,_,k,_=>by cases k
|.bool _,_,k,_=>by cases k
|.list _,_,k,_=>by cases k
|.dict _,_,k,_=>by cases k
theorem DVs.keep (ht:∀ b vs,H b=some (.tup vs)->H' b=some (.tup vs)):∀ (ds:List PyData) (vs:List V),MX.kds ds=true->DVs H ds vs->DVs H' ds vs
|[],_,_,e=>e
|d :: ds,_,k,⟨v,r,e,h1,h2⟩=>by
  have k':(MX.kd d && MX.kds ds)=true:=k;rw[and_eq_true]at k';exact⟨v,r,e,DV.keep ht d v k'.1 h1,DVs.keep ht ds r k'.2 h2⟩
end
theorem DVs.length:∀ {ds:List PyData}{vs:List V},DVs H ds vs->vs.length=ds.length
|[],_,e=>by cases e;rfl
|d :: ds,_,⟨v,r,e,_,h2⟩=>by subst e;rw[length_cons,length_cons,DVs.length h2]
theorem DVs.get:∀ {ds:List PyData}{vs:List V}{j:Nat}{v:V},DVs H ds vs->vs[j]?=some v->∃ d,ds[j]?=some d/\DV H d v
|[],_,j,v,e,g=>by cases e;simp at g
|d :: ds,_,0,v,⟨v',r,e,h1,h2⟩,g=>by subst e;simp at g;subst g;exact⟨d,rfl,h1⟩
|d :: ds,_,j+1,v,⟨v',r,e,h1,h2⟩,g=>by
  subst e;obtain⟨d',a,b⟩:=DVs.get (j:=j) (v:=v) h2 (by simpa using g);exact⟨d',by simpa using a,b⟩
theorem DVs.snoc:∀ {ds:List PyData}{vs:List V}{d:PyData}{v:V},DVs H ds vs->DV H d v->DVs H (ds++[d]) (vs++[v])
|[],_,d,v,e,h=>by cases e;exact⟨v,[],rfl,h,rfl⟩
|c :: ds,_,d,v,⟨v',r,e,h1,h2⟩,h=>by subst e;exact⟨v',r++[v],rfl,h1,DVs.snoc h2 h⟩
end
def mF (d:PyData):Prop:=d.canLay0=true/\d.depth <= 16
theorem mF.key {d:PyData}(h:MX.kd d=true) (h2:d.depth <= 8):mF d:=⟨MX.kd_lay d h,by omega⟩
theorem mF.int (i:Int):mF (.int i):=⟨rfl,by show 0 <= 16;decide⟩
def FK (neg:Bool):R2:=λx y H Q=>∃ d e,DV H d x/\DV H e y/\mF d/\mF e/\Q (.bl (if neg then !PyData.eqv d e else PyData.eqv d e)) H
section
variable {X:Cx}
theorem sf (hu:X.A.units+64 < cLine):OpR X (compareOp .Eq) (FK false):=by
 intro pins s σ H x y v u Q I rx ry h;obtain⟨d,e,h1,h2,l1,l2,q⟩:=h;obtain⟨as,r1⟩:=DV.reads I.hok d x v h1 rx;obtain⟨bs,r2⟩:=DV.reads I.hok e y u h2 ry;exact SeqAt.compareEq_reads r1 r2 l1.1 l2.1 (by have:=l1.2;omega) ⟨.bl _,H,I,rfl,q⟩
theorem u9 (hu:X.A.units+64 < cLine):OpR X (compareOp .NotEq) (FK true):=by
 intro pins s σ H x y v u Q I rx ry h;obtain⟨d,e,h1,h2,l1,l2,q⟩:=h;obtain⟨as,r1⟩:=DV.reads I.hok d x v h1 rx;obtain⟨bs,r2⟩:=DV.reads I.hok e y u h2 ry;exact SeqAt.neOverData X.prog X.w X.A X.xe s v u d e as bs _ r1 r2 l1.1 l2.1 (by have:=l1.2;omega) ⟨.bl _,H,I,rfl,q⟩
end
def ki (a:Addr) (es:List DictEntry) (ep:Nat):HO:=.ext λh=>(a == sysModules)=false/\MX.DictE h a es ep
def xX (w:World) (H:Hp) (p:PyData × V) (e:DictEntry):Prop:=MX.kd p.1=true/\p.1.depth <= 8/\e.hash=MX.hashD w p.1/\(∃ x,bR x e.key/\DV H p.1 x)/\bR p.2 e.val
def MD (w:World) (H:Hp) (a:Addr) (kvs:List (PyData × V)):Prop:=∃ es ep,H a=some (ki a es ep)/\Paired (xX w H) kvs es/\(kvs.map (·.1)).Nodup/\kvs.length <= sizeLine
def mL (H:Hp) (k:PyData) (y:V):Prop:=MX.kd k=true/\k.depth <= 8/\DV H k y/\((∃ t,y=.str t)\/∃ b,y=.ref b)
def cH (kvs:List (PyData × V)) (k:PyData):Option V:=(kvs.find? λp=>PyData.eqv p.1 k).map (·.2)
def ub (kvs:List (PyData × V)) (k:PyData) (v:V):List (PyData × V) :=
 if (kvs.any λp=>PyData.eqv p.1 k)=true then kvs.map (λp=>if PyData.eqv p.1 k=true then (p.1,v) else p) else kvs++[(k,v)]
theorem ki.ok {P:Program}{w:World}{H:Hp}{h:Heap}{a:Addr}{es:List DictEntry}{ep:Nat}(hs:(a == sysModules)=false) (hm:MX.DictE h a es ep):cT P w H h a (ki a es ep):=by
 refine⟨⟨hs,hm⟩,?_,λh1 h2 ⟨z,o,e,r⟩ k=>⟨z,o,k o e,r⟩⟩;obtain⟨o,e,_⟩:=hm;exact⟨o,e⟩
theorem ki.of {P:Program}{w:World}{H:Hp}{h:Heap}{a:Addr}{es:List DictEntry}{ep:Nat}(ok:HOk P w H h) (e:H a=some (ki a es ep)):(a == sysModules)=false/\MX.DictE h a es ep:=by
 obtain⟨q,_⟩:=ok a _ e;exact q
theorem Paired.keys {w:World}{H:Hp}:∀ {kvs:List (PyData × V)}{es:List DictEntry},Paired (xX w H) kvs es->kvs.length=es.length
|_,_,.nil=>rfl
|_,_,.cons _ t=>by rw[length_cons,length_cons,Paired.keys t]
theorem qO {P:Program}{w:World}{H:Hp}{h:Heap}(ok:HOk P w H h):∀ {kvs:List (PyData × V)}{es:List DictEntry},Paired (xX w H) kvs es->MX.Ents w h (kvs.map (·.1)) es
|_,_,.nil=>.nil
|_,_,.cons ⟨k1,k2,k3,⟨x,rx,dx⟩,_⟩ t=>.cons ⟨k1,k2,DV.reads ok _ _ _ dx rx,k3⟩ (qO ok t)
theorem xW {P:Program}{w:World}{H:Hp}{h:Heap}{k:PyData}{y:V}{u:Value}(ok:HOk P w H h) (hk:mL H k y) (r:bR y u):MX.Ask h k u:=by
 obtain⟨k1,k2,k3,k4⟩:=hk;refine⟨k1,k2,DV.reads ok _ _ _ k3 r,?_⟩;rcases k4 with⟨t,rfl⟩|⟨b,rfl⟩
 . obtain⟨tk,rfl⟩:=r;exact .inl ⟨_,_,rfl⟩
 . cases r;exact .inr ⟨_,rfl⟩
section
variable {w:World}{H:Hp}
theorem eQ {d e:PyData}(h1:MX.kd d=true) (h2:MX.kd e=true) (n:d≠e):PyData.eqv d e=false:=by
 cases q:PyData.eqv d e with
|false=>rfl
|true=>exact absurd ((MX.eqv_iff d e h1 h2).mp q) n
theorem cO {d:PyData}(h1:MX.kd d=true):PyData.eqv d d=true:=(MX.eqv_iff d d h1 h1).mpr rfl
def KK (kvs:List (PyData × V)):Prop:=∀ p∈kvs,MX.kd p.1=true
theorem KK.of {kvs:List (PyData × V)}{es:List DictEntry}:Paired (xX w H) kvs es->KK kvs:=by
 intro r
 induction r with
|nil=>intro p h;cases h
|cons a _ ih =>
  intro p h;rcases mem_cons.mp h with rfl|h
  . exact a.1
  . exact ih p h
theorem mU {k:PyData}(hk:MX.kd k=true):∀ {kvs:List (PyData × V)}{j:Nat},KK kvs->(kvs.map (·.1)).Nodup->(kvs.map (·.1))[j]?=some k->∃ v,kvs[j]?=some (k,v)/\cH kvs k=some v
|[],j,_,_,e=>by simp at e
|(a,v) :: r,0,kk,_,e=>by
  simp at e;subst e;refine⟨v,rfl,?_⟩;unfold cH;rw[find?_cons,cO hk];rfl
|(a,v) :: r,j+1,kk,nd,e=>by
  have nd':(a :: r.map (·.1)).Nodup:=nd;obtain⟨n1,n2⟩:=nodup_cons.mp nd';have e':(r.map (·.1))[j]?=some k:=by simpa using e
  obtain⟨v',h1,h2⟩:=mU hk (λp h=>kk p (mem_cons_of_mem _ h)) n2 e';refine⟨v',by simpa using h1,?_⟩;have ne:a≠k:=λz=>n1 (by rw[z];exact mem_of_getElem? e')
  unfold cH at h2 |-;rw[find?_cons,eQ (kk _ mem_cons_self) hk ne];exact h2
theorem rm {k:PyData}(hk:MX.kd k=true) {kvs:List (PyData × V)}(kk:KK kvs) (n:k ∉ kvs.map (·.1)):cH kvs k=none:=by
 unfold cH;rw[find?_eq_none.mpr λp hp=>?_]
 . rfl
 . rw[eQ (kk p hp) hk λz=>n (mem_map.mpr ⟨p,hp,z⟩)];decide
theorem xH {k:PyData}(hk:MX.kd k=true) {kvs:List (PyData × V)}(kk:KK kvs) (n:k ∉ kvs.map (·.1)) (v:V):ub kvs k v=kvs++[(k,v)]:=by
 unfold ub;rw[if_neg];intro h;obtain⟨p,hp,e⟩:=any_eq_true.mp h;exact n (mem_map.mpr ⟨p,hp,(MX.eqv_iff _ _ (kk p hp) hk).mp e⟩)
theorem wT {k:PyData}(hk:MX.kd k=true) {kvs:List (PyData × V)}(kk:KK kvs) (n:k ∉ kvs.map (·.1)) (v:V):kvs.map (λp=>if PyData.eqv p.1 k=true then (p.1,v) else p)=kvs:=by
 induction kvs with
|nil=>rfl
|cons p r ih =>
  have hp:p.1≠k:=λz=>n (mem_map.mpr ⟨p,mem_cons_self,z⟩)
  rw[map_cons,eQ (kk p mem_cons_self) hk hp,ih (λq h=>kk q (mem_cons_of_mem _ h)) λh=>n (by rw[map_cons];exact mem_cons_of_mem _ h)];simp
theorem Cg {k:PyData}(hk:MX.kd k=true) {v:V}{u:Value}(rv:bR v u):∀ {kvs:List (PyData × V)}{es:List DictEntry}{j:Nat},Paired (xX w H) kvs es->(kvs.map (·.1)).Nodup->(kvs.map (·.1))[j]?=some k ->
 Paired (xX w H) (kvs.map (λp=>if PyData.eqv p.1 k=true then (p.1,v) else p)) (es.modify j λe=>{ e with val:=u })
|_,_,j,.nil,_,e=>by simp at e
|(a,v') :: r,e0 :: es,0,.cons q t,nd,e=>by
  simp at e;subst e;have nd':(a :: r.map (·.1)).Nodup:=nd;rw[map_cons,cO hk,wT hk (KK.of t) (nodup_cons.mp nd').1];exact .cons ⟨q.1,q.2.1,q.2.2.1,q.2.2.2.1,rv⟩ t
|(a,v') :: r,e0 :: es,j+1,.cons q t,nd,e=>by
  have nd':(a :: r.map (·.1)).Nodup:=nd;obtain⟨n1,n2⟩:=nodup_cons.mp nd';have e':(r.map (·.1))[j]?=some k:=by simpa using e
  have ne:a≠k:=λz=>n1 (by rw[z];exact mem_of_getElem? e')
  rw[map_cons,eQ q.1 hk ne];exact .cons q (Cg hk rv t n2 e')
theorem FB {k:PyData}(hk:MX.kd k=true) {kvs:List (PyData × V)}{j:Nat}(e:(kvs.map (·.1))[j]?=some k):(kvs.any λp=>PyData.eqv p.1 k)=true:=by
 obtain⟨p,hp,z⟩:=mem_map.mp (mem_of_getElem? e);exact any_eq_true.mpr ⟨p,hp,by rw[z];exact cO hk⟩
theorem xK {k:PyData}{v:V}{kvs:List (PyData × V)}:(kvs.map (λp=>if PyData.eqv p.1 k=true then (p.1,v) else p)).map (·.1)=kvs.map (·.1):=by
 rw[map_map];congr 1;funext p;show (if PyData.eqv p.1 k=true then (p.1,v) else p).1=p.1;split<;>rfl
theorem Br (kvs:List (PyData × V)) (k:PyData) (v:V):(ub kvs k v).length <= kvs.length+1:=by
 unfold ub;split
 . rw[length_map];omega
 . rw[List.length_append];exact Nat.le_refl _
end
section
variable {w:World}{H H':Hp}{a:Addr}{kvs:List (PyData × V)}
theorem xX.keep (ht:∀ b vs,H b=some (.tup vs)->H' b=some (.tup vs)) {p:PyData × V}{e:DictEntry}(q:xX w H p e):xX w H' p e:=by
 obtain⟨k1,k2,k3,⟨x,rx,dx⟩,k5⟩:=q;exact⟨k1,k2,k3,⟨x,rx,DV.keep ht _ _ k1 dx⟩,k5⟩
theorem MD.keep (m:MD w H a kvs) (ha:H' a=H a) (ht:∀ b vs,H b=some (.tup vs)->H' b=some (.tup vs)):MD w H' a kvs:=by
 obtain⟨es,ep,h1,h2,h3⟩:=m;exact⟨es,ep,by rw[ha];exact h1,Paired.mapP h2 λ_ _ q=>q.keep ht,h3⟩
end
section
variable {X:Cx}{pins:List (Addr × Obj)}{σ:St}{H:Hp}{s:Shared}{a:Addr}{kvs:List (PyData × V)}{k:PyData}{y v d:V}{u r:Value}{A:Around}{E:Value->Shared->Prop}
theorem FX {A:Around}(hu:A.units+64 < cLine):A.in1.units+8 < cLine:=by
 rw[Around.in1_units];omega
theorem Dc {Q:Value->Shared->Prop}(hu:A.units+64 < cLine) (I:Inv X pins σ H s) (m:MD X.w H a kvs) (hk:mL H k y) (ry:bR y u) (rd:bR d r) (h:∀ w' s',Inv X pins σ H s'->bR ((cH kvs k).getD d) w'->Q w' s') :
 wpAny (model X.prog X.w) A (call (.builtin "dict.get") [.ref a,u,r]) Q E s:=by
 obtain⟨es,ep,h1,h2,h3,h4⟩:=m;obtain⟨hs,hme⟩:=ki.of I.hok h1;have hm:=hme.es;refine call_meetsIn PySem.F.slot_dict_get hm.typeIs PySem.F.entry_dict_get (PySem.F.args_dict_get_3 _ _ _) (MX.meets_D a u r hs) ⟨FX hu,k,_,es,xW I.hok hk ry,hm,qO I.hok h2,h3,λn tk=>h _ _ (I.tok _) ?_,λj e hj he tk=>h _ _ (I.tok _) ?_⟩
 . rw[rm hk.1 (KK.of h2) n];exact rd
 . obtain⟨v',g1,g2⟩:=mU hk.1 (KK.of h2) h3 hj;rw[g2];obtain⟨p,e1,e2⟩:=MX.f2_get h2 j e he;rw[g1]at e1;cases e1;exact e2.2.2.2.2
theorem Dv {Q:Value->Shared->Prop}(hu:A.units+64 < cLine) (I:Inv X pins σ H s) (m:MD X.w H a kvs) (hk:mL H k y) (ry:bR y u) (hl:cH kvs k=some v) (h:∀ w' s',Inv X pins σ H s'->bR v w'->Q w' s') :
 wpAny (model X.prog X.w) A (getItem (.ref a) u) Q E s:=by
 obtain⟨es,ep,h1,h2,h3,h4⟩:=m;obtain⟨hs,hme⟩:=ki.of I.hok h1;have hm:=hme.es;have hin:k∈kvs.map (·.1):=Classical.byContradiction λn=>by rw[rm hk.1 (KK.of h2) n]at hl;cases hl
 refine MX.item_D (FX hu) (xW I.hok hk ry) hm (qO I.hok h2) h3 hin λj e hj he tk=>h _ _ (I.tok _) ?_
 obtain⟨v',g1,g2⟩:=mU hk.1 (KK.of h2) h3 hj;rw[g2]at hl;cases hl;obtain⟨p,e1,e2⟩:=MX.f2_get h2 j e he;rw[g1]at e1;cases e1;exact e2.2.2.2.2
theorem FC {Q:Unit->Shared->Prop}(hu:A.units+64 < cLine) (I:Inv X pins σ H s) (m:MD X.w H a kvs) (hl:kvs.length < sizeLine) (hk:mL H k y) (ry:bR y u) (rv:bR v r)
 (h:∀ H' s',Inv X pins σ H' s'->(∀ b,b≠a->H' b=H b)->MD X.w H' a (ub kvs k v)->Q () s'):wpAny (model X.prog X.w) A (setItem (.ref a) u r) Q E s:=by
 obtain⟨es,ep,h1,h2,h3,h4⟩:=m;obtain⟨hs,hme⟩:=ki.of I.hok h1;have hm:=hme.es;have kk:=KK.of h2;have hz:es.length <= sizeLine:=by rw[<-Paired.keys h2];omega
 refine MX.put_D (FX hu) (xW I.hok hk ry) hm (qO I.hok h2) h3 hz λh' tk es' hm' hsb hor=>?_
 obtain⟨ep',hm2⟩:=hm'.ep;have I':Inv X pins σ (upd H a (ki a es' ep')) { s with heap:=h',toks:=tk }:=qR I (by rw[h1];exact True.intro) hsb (let ⟨o,e,_⟩:=hm2;⟨o,e⟩) (ki.ok hs hm2);refine h _ _ I' (λb hb=>aa hb) ⟨es',ep',a6,?_⟩;have ht:∀ b vs,H b=some (.tup vs)->upd H a (ki a es' ep') b=some (.tup vs):=λb vs e=>by
  rw[aa (ii e h1 (by intro z;cases z))];exact e
 rcases hor with⟨n,rfl⟩|⟨j,hj,rfl⟩
 . rw[xH hk.1 kk n];refine⟨?_,?_,by rw[List.length_append];show kvs.length+1 <= sizeLine;omega⟩
   . refine Paired.snoc (Paired.mapP h2 λ_ _ q=>q.keep ht) ⟨hk.1,hk.2.1,rfl,⟨y,ry,DV.keep ht _ _ hk.1 hk.2.2.1⟩,rv⟩
   . rw[map_append];exact nd_snocP h3 n
 . have e:ub kvs k v=kvs.map (λp=>if PyData.eqv p.1 k=true then (p.1,v) else p):=by
    unfold ub;rw[if_pos (FB hk.1 hj)]
   rw[e];exact⟨Paired.mapP (Cg hk.1 rv h2 h3 hj) λ_ _ q=>q.keep ht,by rw[xK];exact h3,by rw[length_map];exact h4⟩
where
 nd_snocP {l:List PyData} {k:PyData} (hn:l.Nodup) (hk:k ∉ l):(l++[k]).Nodup:=by
  rw[List.nodup_append];exact⟨hn,by simp,λx hx y hy=>by
   rw[mem_singleton.mp hy];exact λz=>hk (z ▸ hx)⟩
end
def FZ:TE:=λ_ H Q=>∀ p,H p=none->Q (.ref p) (upd H p (ki p [] 0))
def Gd (w:World) (td ty tv:TE):TS:=λD σ H=>tv σ H λv H1=>td σ H1 λx H2=>ty σ H2 λy H3=>∃ a kvs k,x=.ref a/\MD w H3 a kvs/\kvs.length < sizeLine/\mL H3 k y /\
 ∀ H4,(∀ b,b≠a->H4 b=H3 b)->MD w H4 a (ub kvs k v)->D.nx σ H4
def Fa (w:World) (td ty tx:TE):TE:=λσ H Q=>td σ H λx H1=>∃ a,x=.ref a/\(∃ kvs,MD w H1 a kvs)/\ty σ H1 λy H2=>tx σ H2 λz H3=>∃ kvs k,MD w H3 a kvs/\mL H3 k y/\Q ((cH kvs k).getD z) H3
def Co (w:World) (td ty:TE):TE:=λσ H Q=>td σ H λx H1=>ty σ H1 λy H2=>∃ a kvs k v,x=.ref a/\MD w H2 a kvs/\mL H2 k y/\cH kvs k=some v/\Q v H2
section
variable {X:Cx}{o i e f value:Expr}{pos pos' apos cpos:Pos}{td ty tv tx:TE}
theorem D9:PE X (.Dict [] [] pos) FZ:=λpins s σ H Q I h =>
 wpAny_Dict_empty ⟨.ref s.heap.objs.size,_,I.laid (a:=s.heap.objs.size) (o:=ki s.heap.objs.size [] 0) (t':=s.toks) (λ_ _ q=>Heap.get?_push_of_some _ q) (Nat.le_refl _)
  (ki.ok (beq_eq_false_iff_ne.mpr (Ne.symm (ne_of_lt I.big))) ⟨_,Heap.get?_push_size _ rfl,⟨rfl,rfl,rfl⟩,rfl⟩),rfl,h _ (I.hok.fresh (Nat.le_refl _))⟩
theorem CC (hu:X.A.units+64 < cLine) (ho:PE X o td) (hi:PE X i ty) (hv:PE X value tv) (hs:swapsWith value (some (.Subscript o i pos')) pos.line X.env=pure false) :
 PS X (.Assign [.Subscript o i pos'] value pos) (Gd X.w td ty tv):=by
 intro pins s σ H D I h;refine wpAny_Assign_Subscript (thn (hv pins s σ H _ I h) λr s1 ⟨v,H1,I1,rv,q1⟩=>thn (ho pins s1 σ H1 _ I1 q1) λu s2 ⟨x,H2,I2,rx,q2⟩=>thn (hi pins s2 σ H2 _ I2 q2) λiv s3 ⟨y,H3,I3,ry,a,kvs,k,ex,m,hl,hk,q3⟩=>?_) hs;subst ex;obtain rfl:u=Value.ref a:=rx;exact FC hu I3 m hl hk ry rv λH4 s4 I4 g1 g2=>⟨σ,H4,I4,q3 H4 g1 g2⟩
theorem AD (hu:X.A.units+64 < cLine) (ho:PE X o td) (he:PE X e ty) (hf:PE X f tx) (m:M2 X o "get" apos e f cpos):PE X (.Call (.Attribute o "get" apos) [e,f] [] cpos) (Fa X.w td ty tx):=by
 intro pins s σ H Q I h;refine wpAny_Call_method m.base m.few m.line PySem.F.plainAttrs_dict PySem.F.slot_dict_get PySem.F.type_dict_get (thn (ho pins s σ H _ I h) λu s1 ⟨x,H1,I1,rx,a,ex,⟨kv0,es,ep,e1,_⟩,q1⟩=>?_);subst ex;obtain rfl:u=Value.ref a:=rx;obtain⟨_,ob,g1,g2,g3⟩:=ki.of I1.hok e1;refine⟨⟨ob,g1,g2.1⟩,λb eb=>by injection eb with eb;subst eb;exact⟨ob,g1,g2.2.1⟩,?_⟩;rw[m.trees];refine Calls.callWith_builtin rfl (Calls.evalArgs_plain (Calls.spliced_cons (thn (he pins s1 σ H1 _ I1 q1) λiv s2 ⟨y,H2,I2,ry,q2⟩ =>
  Calls.spliced_cons (thn (hf pins s2 σ H2 _ I2 q2) λfv s3 ⟨z,H3,I3,rz,kvs,k,md,hk,q3⟩=>Calls.spliced_nil ?_))))
 exact Dc hu I3 md hk ry rz λw' s4 I4 rw'=>⟨_,H3,I4,rw',q3⟩
theorem AM (hu:X.A.units+64 < cLine) (ho:PE X o td) (hi:PE X i ty) (hs:G8 i):PE X (.Subscript o i pos) (Co X.w td ty):=by
 intro pins s σ H Q I h;refine A5 (T:="dict") (id:="dict.__getitem__") slot_dict_getitem.lookup hs (thn (ho pins s σ H _ I h) λu s1 ⟨x,H1,I1,rx,q1⟩=>thn (hi pins s1 σ H1 _ I1 q1) λiv s2 ⟨y,H2,I2,ry,a,kvs,k,v,ex,md,hk,hl,q⟩=>?_);subst ex;obtain rfl:u=Value.ref a:=rx;obtain⟨es,ep,e1,_⟩:=id md;obtain⟨_,ob,g1,g2,g3⟩:=ki.of I2.hok e1;exact⟨⟨ob,g1,g2.1⟩,Dv hu I2 md hk ry hl λw' s4 I4 rw'=>⟨v,H2,I4,rw',q⟩⟩
end
def Itv (K:PySem.W.Frag) (a:Addr) (n:Nat):It :=
 ⟨λi H=>i < n/\∃ xs,SqL K H a xs/\xs.length=n,λi H x H'=>H'=H/\∀ xs,SqL K H a xs->xs[n - 1 - i]?=some x,λi _=>i=n⟩
theorem Ah {P:Program}{w:World}{K:PySem.W.Frag}{tg:Expr}(a it:Addr) (n:Nat):Turn P w K tg (Itv K a n) [it] it (λi h=>h.IsRevIter it a ((n:Int) - 1 - i)) where
 mem:=mem_singleton.mpr rfl
 obj:=λi h st b hb=>by
  obtain rfl:b=it:=mem_singleton.mp hb;obtain⟨o,e,c,d⟩:=st;exact⟨o,e,λv z=>by rw[d]at z;cases z⟩
 keep:=λi h h' st k=>st.at λo e=>k it (mem_singleton.mpr rfl) o e
 item:=by
  intro X hP hw hK hc i pins s σ H E I hf st hg;subst hP hw hK;obtain⟨hi,xs,hq,hn⟩:=hg;obtain⟨its,rv,p,hz⟩:=I.list hq;have hlt:n - 1 - i < xs.length:=by omega
  obtain⟨u,hu,ru⟩:=rv.get (getElem?_eq_getElem hlt);obtain⟨f0,f1,f2,f3,f4,f5⟩:=hf it (mem_singleton.mpr rfl);have ei:(n:Int) - 1 - i=((n - 1 - i:Nat):Int):=by omega
  rw[ei]at st;refine wpAny_pyNext_rev_item st p.isList (x:=u) (by simpa using hu) λh' st' sb=>?_
  have I1:Inv X pins σ H { s with heap:=h' }:=I.turned (t':=s.toks) (λb o hb e=>(sb.2 b hb).trans e) f0 f1 f3 f4 f5;have ej:((n - 1 - i:Nat):Int) - 1=(n:Int) - 1 - ((i+1:Nat):Int):=by omega
  rw[ej]at st';obtain⟨o,e,c,d⟩:=id st';exact⟨u,rfl,xS (s:={ s with heap:=h' }) e c d (by decide) ⟨_,H,I1,ru,⟨rfl,λys hy=>by rw[I.list_inj hy hq];exact getElem?_eq_getElem hlt⟩,st',λb hb=>(hf b hb).1⟩⟩
 done:=by
  intro X hP hw hK hc i pins s σ H E I hf st hg;subst hP hw hK;obtain⟨f0,f1,f2,f3,f4,f5⟩:=hf it (mem_singleton.mpr rfl);have hg':i=n:=hg;have ei:(n:Int) - 1 - i=-1:=by omega
  rw[ei]at st;exact wpAny_pyNext_rev_end (I.ok.hd hc) st λh' eb=>⟨rfl,I.turned (t':=s.toks) (λb o hb e=>eb b o hb e) f0 f1 f3 f4 f5⟩
 self:=λ_ _ _ _ _ st h=>wpAny_pyIter_revIter st h
def HF (K:PySem.W.Frag) (ta:TA):TI:=λσ H R=>ta σ H λvs H1=>∃ a xs,vs=[.ref a]/\SqL K H1 a xs/\R (Itv K a xs.length) H1
section
variable {X:Cx}{tg:Expr}
theorem Fh {l:Expr}{ta:TA}{p pos:Pos}(hg:Gl X "reversed") (hm:X.mg "reversed"=none) (ha:PA X [l] ta) (hs:starEach [l] X.env=[(false,eval l X.env)]:=by rfl):PI X tg (.Call (.Name "reversed" p) [l] [] pos) (HF X.K ta):=by
 intro pins s σ H R I h;refine Call_ (m5 I hg hm uw (PyProof.Rows.callWith_type1 (thn (ha pos pins s σ H _ I h) λus s1 ⟨vs,H1,I1,r1,a,xs,ev,hq,q⟩=>?_) hs rfl));subst ev;obtain⟨u,rfl,ru⟩:=mv r1;cases ru;obtain⟨its,rv,pl,hz⟩:=I1.list hq;have hlen:=rv.length;refine call_reversed_list pl.isList ?_;have sz:((its.toArray.size:Nat):Int) - 1=(xs.length:Int) - 1 - ((0:Nat):Int):=by simp;omega
 rw[sz];have st0:(s1.heap.push (revObj a ((xs.length:Int) - 1 - ((0:Nat):Int)))).IsRevIter s1.heap.objs.size a ((xs.length:Int) - 1 - ((0:Nat):Int)):=⟨_,Heap.get?_push_size _ rfl,rfl,rfl⟩
 refine wpAny_pyIter_revIter (s:={ s1 with heap:=s1.heap.push (revObj a ((xs.length:Int) - 1 - ((0:Nat):Int))) }) st0 ?_;refine⟨s1.heap.objs.size,[s1.heap.objs.size],_,_,H1,rfl,I1.kept (t':=s1.toks) λb o e=>Heap.get?_push_of_some _ e,Ah a _ xs.length,st0,λb hb=>?_,q⟩;obtain rfl:b=s1.heap.objs.size:=mem_singleton.mp hb;exact I1.fpOk (Nat.le_refl _) (I1.hok.fresh (Nat.le_refl _))
theorem Eb {K:PySem.W.Frag}{a:Addr}{xs:List V}{g:TG}{tb:TS}{D:Ends}{σ:St}{H:Hp}(Pv:Nat->St->Hp->Prop) (h0:Pv 0 σ H) (hl:∀ i σ H,i <= xs.length->Pv i σ H->SqL K H a xs)
 (hs:∀ i x σ H,i < xs.length->xs[xs.length - 1 - i]?=some x->Pv i σ H->g x σ H λσ2 H2=>tb { D with nx:=Pv (i+1),ct:=Pv (i+1),bk:=D.nx } σ2 H2) (hd:∀ σ H,Pv xs.length σ H->D.nx σ H) :
 ∃ W:Nat->Nat->St->Hp->Prop,(∃ m,W 0 m σ H)/\∀ i m σ H,W i m σ H->((Itv K a xs.length).stop i H/\D.nx σ H)\/((Itv K a xs.length).go i H/\∃ N:St->Hp->Prop,(∀ σ' H',N σ' H'->∃ m',m' < m/\W (i+1) m' σ' H') /\
  ∀ x H',(Itv K a xs.length).yld i H x H'->g x σ H' λσ2 H2=>tb { D with nx:=N,ct:=N,bk:=D.nx } σ2 H2):=by
 refine⟨λi m σ H=>Pv i σ H/\i <= xs.length/\m=xs.length - i,⟨_,h0,zero_le _,rfl⟩,?_⟩;rintro i m σ H ⟨hp,hi,rfl⟩;by_cases z:i=xs.length
 . subst z;exact .inl ⟨rfl,hd σ H hp⟩
 . have hlt:i < xs.length:=by omega
   refine .inr ⟨⟨hlt,xs,hl i σ H hi hp,rfl⟩,Pv (i+1),λσ' H' q=>⟨xs.length - (i+1),by omega,q,hlt,rfl⟩,?_⟩;rintro x H' ⟨rfl,hx⟩;exact hs i x σ H' hlt (hx xs (hl i σ H' hi hp)) hp
end
def HS (K:PySem.W.Frag) (neg:Bool):R2:=λx y H Q=>∃ a b xs,x=.ref a/\y=.ref b/\SqL K H a xs/\SqL K H b []/\Q (.bl (if neg then !xs.isEmpty else xs.isEmpty)) H
section
variable {X:Cx}
theorem B6 (hu:X.A.units+64 < cLine):OpR X (compareOp .NotEq) (HS X.K true):=by
 intro pins s σ H x y v u Q I rx ry h;obtain⟨a,b,xs,rfl,rfl,h1,h2,q⟩:=h;cases rx;cases ry;obtain⟨its,r1,p1,_⟩:=I.list h1;obtain⟨it2,r2,p2,_⟩:=I.list h2;have e2:it2=[]:=bC.zero r2;subst e2;have hl:=r1.length;cases xs with
|nil =>
  have e1:its=[]:=bC.zero r1;subst e1;exact SeqAt.RcNeAt.lists (e:=λ_=>true) p1.isList p2.isList rfl (by omega) (λj h1 _=>absurd h1 (Nat.not_lt_zero _)) X.prog X.w X.xe _ ⟨.bl false,H,I,rfl,q⟩
|cons z zs =>
  have hne:(its.toArray.size != ([]:List Value).toArray.size)=true:=by
   rw[length_cons]at hl;rw[bne_iff_ne,size_toArray,size_toArray,List.length_nil];omega
  exact SeqAt.RcNeAt.lists_lengths p1.isList p2.isList hne (by omega) X.prog X.w X.xe _ ⟨.bl true,H,I,rfl,q⟩
end
def Itm (w:World) (a:Addr) (es:List DictEntry) (ep:Nat) (kvs:List (PyData × V)):It :=
 ⟨λi H=>H a=some (ki a es ep)/\Paired (xX w H) kvs es/\i < kvs.length,λi H x H'=>H'=H/\∃ k v,kvs[i]?=some (k,v)/\mL H k x,λi H=>H a=some (ki a es ep)/\kvs.length=es.length/\kvs.length <= i⟩
def FJ (kvs:List (PyData × V)):Prop:=∀ p∈kvs,(∃ t,p.1=.str t)\/∃ ds,p.1=.tuple ds
theorem zk {P:Program}{w:World}{K:PySem.W.Frag}{tg:Expr}(a it:Addr) (es:List DictEntry) (ep:Nat) (kvs:List (PyData × V)) (top:FJ kvs) (hlen:kvs.length=es.length):Turn P w K tg (Itm w a es ep kvs) [it] it (λi h=>h.IsKeyIter it a i es.length ep) where
 mem:=mem_singleton.mpr rfl
 obj:=λi h st b hb=>by
  obtain rfl:b=it:=mem_singleton.mp hb;obtain⟨o,e,c,d⟩:=st;exact⟨o,e,λv z=>by rw[d]at z;cases z⟩
 keep:=λi h h' st k=>st.at λo e=>k it (mem_singleton.mpr rfl) o e
 item:=by
  intro X hP hw hK hc i pins s σ H E I hf st hg;subst hP hw hK;obtain⟨h1,h2,hi⟩:=hg;obtain⟨hs,hm⟩:=ki.of I.hok h1;have hx:=getElem?_eq_getElem hi;obtain⟨e,he,k1,k2,k3,⟨x,rx,dx⟩,k5⟩:=MX.f2_get' h2 i _ hx;obtain⟨f0,f1,f2,f3,f4,f5⟩:=hf it (mem_singleton.mpr rfl);refine MX.keys_next st hm he λh' st' sb=>?_
  have I1:Inv X pins σ H { s with heap:=h' }:=I.turned (t':=s.toks) (λb o hb e=>(sb.2 b hb).trans e) f0 f1 f3 f4 f5;obtain⟨o,e',c,d⟩:=id st';refine⟨e.key,rfl,xS (s:={ s with heap:=h' }) e' c d (by decide) ⟨x,H,I1,rx,⟨rfl,_,_,hx,k1,k2,dx,?_⟩,st',λb hb=>(hf b hb).1⟩⟩;rcases top _ (mem_of_getElem? hx) with⟨t,z⟩|⟨ds,z⟩
  . rw[z]at dx;exact .inl ⟨t,dx⟩
  . rw[z]at dx;obtain⟨b,_,e2,_⟩:=dx;exact .inr ⟨b,e2⟩
 done:=by
  intro X hP hw hK hc i pins s σ H E I hf st hg;subst hP hw hK;obtain⟨h1,h2,hi⟩:=hg;obtain⟨hs,hm⟩:=ki.of I.hok h1;obtain⟨f0,f1,f2,f3,f4,f5⟩:=hf it (mem_singleton.mpr rfl);exact MX.keys_end (I.ok.hd hc) st hm (by omega) λh' eb=>⟨rfl,I.turned (t':=s.toks) (λb o hb e=>eb b o hb e) f0 f1 f3 f4 f5⟩
 self:=λ_ _ _ _ _ st h=>wpAny_pyIter_keyiter st h
def Gw (w:World) (tl:TE):TI:=λσ H R=>tl σ H λx H1=>∃ a es ep kvs,x=.ref a/\H1 a=some (ki a es ep)/\Paired (xX w H1) kvs es/\FJ kvs/\R (Itm w a es ep kvs) H1
theorem Dr {X:Cx}{tg l:Expr}{tl:TE}(hl:PE X l tl):PI X tg l (Gw X.w tl):=by
 intro pins s σ H R I h;refine thn (hl pins s σ H _ I h) λv s1 ⟨x,H1,I1,r1,a,es,ep,kvs,ex,h1,h2,top,q⟩=>?_
 subst ex;cases r1;obtain⟨hs,hm⟩:=ki.of I1.hok h1;refine MX.keys_iter hs hm λh' st hk=>?_
 refine⟨s1.heap.objs.size,[s1.heap.objs.size],_,_,H1,rfl,I1.kept (t':=s1.toks) hk,zk a _ es ep kvs top (Paired.keys h2),st,λb hb=>?_,q⟩;obtain rfl:b=s1.heap.objs.size:=mem_singleton.mp hb;exact I1.fpOk (Nat.le_refl _) (I1.hok.fresh (Nat.le_refl _))
theorem nhr:¬ (("held":Str)="rows"):=by decide +kernel
def stF (hd rl:Addr):List (Str × V):=bO "rows" (.ref rl) (bO "held" (.ref hd) [])
theorem mO {hd rl:Addr}:(stF hd rl).lookup ("held":Str)=some (.ref hd):=by
 unfold stF;rw[a8,if_neg nhr,a8,if_pos rfl]
theorem jq {hd rl:Addr}:(stF hd rl).lookup ("rows":Str)=some (.ref rl):=by
 unfold stF;rw[a8,if_pos rfl]
theorem bW {hd rl:Addr}{m:Str}(h1:¬ m="rows") (h2:¬ m="held"):(stF hd rl).lookup m=none:=by
 unfold stF;rw[a8,if_neg h1,a8,if_neg h2]
 all_goals rfl
def sdI:Bool->Int
|false=>0
|true=>1
theorem pT {l:Bool->Addr}(b:Bool):atI [V.ref (l false),V.ref (l true)] (sdI b)=some (.ref (l b)):=by
 cases b<;>rfl
theorem mL.keep {H H':Hp}{k:PyData}{y:V}(h:mL H k y) (ht:∀ b vs,H b=some (.tup vs)->H' b=some (.tup vs)):mL H' k y :=
 ⟨h.1,h.2.1,DV.keep ht _ _ h.1 h.2.2.1,h.2.2.2⟩
def Wt (H:Hp) (p:PyData × V) (tv:V):Prop:=∃ t cv,tv=.ref t/\H t=some (.tup [cv,p.2])/\mL H p.1 cv
theorem Wt.keep {H H':Hp}{p:PyData × V}{tv:V}(h:Wt H p tv) (ht:∀ b vs,H b=some (.tup vs)->H' b=some (.tup vs)):Wt H' p tv:=by
 obtain⟨t,cv,e,h1,h2⟩:=h;exact⟨t,cv,e,ht _ _ h1,h2.keep ht⟩
def yE (H:Hp) (l:Addr) (es:List (PyData × V)):Prop:=∃ ts:List V,H l=some (.lst ts)/\Paired (Wt H) es ts
theorem yE.keep {H H':Hp}{l:Addr}{es:List (PyData × V)}(h:yE H l es) (hl:∀ o,H l=some o->H' l=some o) (ht:∀ b vs,H b=some (.tup vs)->H' b=some (.tup vs)):yE H' l es:=by
 obtain⟨ts,h1,h2⟩:=h;exact⟨ts,hl _ h1,Paired.mapP h2 λ_ _ q=>q.keep ht⟩
theorem aX {α β:Type}{F:α->β->Prop}:∀ {xs:List α}{ys:List β},Paired F xs ys->xs.length=ys.length
|_,_,.nil=>rfl
|_,_,.cons _ t=>by rw[length_cons,length_cons,aX t]
def ba {α:Type}(r:Bool->α) (b:Bool) (v:α):Bool->α:=λc=>if c=b then v else r c
theorem aD {α:Type}{r:Bool->α}{b:Bool}{v:α}:ba r b v b=v:=if_pos rfl
theorem bF {α:Type}{r:Bool->α}{b c:Bool}{v:α}(h:c≠b):ba r b v c=r c:=if_neg h
structure Sto (w:World) (C:Addr) (H:Hp) (x hd rl:Addr) (l:Bool->Addr) (M:List (PyData × V)) (r:Bool->List (PyData × V)):Prop where
 ob:∃ dx,H x=some (.ins C dx (stF hd rl))
 me:MD w H hd M
 ro:H rl=some (.lst [.ref (l false),.ref (l true)])
 rw:∀ b,yE H (l b) (r b)
 nl:l false≠l true
 nr:∀ b,l b≠rl
def Kp (xs:List Addr) (H H':Hp):Prop:=∀ c o,c ∉ xs->H c=some o->H' c=some o
theorem Kp.refl (xs:List Addr) (H:Hp):Kp xs H H:=λ_ _ _ e=>e
theorem Kp.trans {xs:List Addr}{H H1 H2:Hp}(a:Kp xs H H1) (b:Kp xs H1 H2):Kp xs H H2:=λc o n e=>b c o n (a c o n e)
theorem Kp.mono {xs ys:List Addr}{H H':Hp}(a:Kp xs H H') (h:∀ c,c∈xs->c∈ys):Kp ys H H':=λc o n e=>a c o (λz=>n (h c z)) e
section
variable {w:World}{C:Addr}{H H':Hp}{x hd rl:Addr}{l:Bool->Addr}{M:List (PyData × V)}{r:Bool->List (PyData × V)}
theorem MD.there (m:MD w H hd M):∃ ee:List DictEntry × Nat,H hd=some (ki hd ee.1 ee.2):=let ⟨es,ep,h,_⟩:=m;⟨(es,ep),h⟩
theorem MD.keepS (m:MD w H hd M) (ha:∀ o,H hd=some o->H' hd=some o) (ht:∀ b vs,H b=some (.tup vs)->H' b=some (.tup vs)):MD w H' hd M:=by
 obtain⟨es,ep,h1,h2⟩:=id m;exact m.keep ((ha _ h1).trans h1.symm) ht
theorem Sto.keep (S:Sto w C H x hd rl l M r) (h:∀ c o,(c=x\/c=hd\/c=rl\/∃ b,c=l b)->H c=some o->H' c=some o) (ht:∀ b vs,H b=some (.tup vs)->H' b=some (.tup vs)):Sto w C H' x hd rl l M r:=by
 obtain⟨dx,e⟩:=S.ob;exact⟨⟨dx,h _ _ (.inl rfl) e⟩,S.me.keepS (λo=>h _ o (.inr (.inl rfl))) ht,h _ _ (.inr (.inr (.inl rfl))) S.ro,λb=>(S.rw b).keep (λo=>h _ o (.inr (.inr (.inr ⟨b,rfl⟩)))) ht,S.nl,S.nr⟩
theorem Sto.same (S:Sto w C H x hd rl l M r) (h:bG H H'):Sto w C H' x hd rl l M r:=S.keep (λc o _ e=>h c o e) λb vs e=>h b _ e
def Sto.own (x hd rl:Addr) (l:Bool->Addr) (c:Addr):Prop:=c=x\/c=hd\/c=rl\/c=l false\/c=l true
theorem Sto.there (S:Sto w C H x hd rl l M r) {c:Addr}(h:Sto.own x hd rl l c):∃ o,H c=some o/\(∀ xs,o≠.tup xs):=by
 rcases h with rfl|rfl|rfl|rfl|rfl
 . obtain⟨dx,e⟩:=S.ob;exact⟨_,e,λ_ z=>by cases z⟩
 . obtain⟨es,e⟩:=S.me.there;exact⟨_,e,λ_ z=>by cases z⟩
 . exact⟨_,S.ro,λ_ z=>by cases z⟩
 . obtain⟨ts,e,_⟩:=S.rw false;exact⟨_,e,λ_ z=>by cases z⟩
 . obtain⟨ts,e,_⟩:=S.rw true;exact⟨_,e,λ_ z=>by cases z⟩
end
def kO (M:List (PyData × V)) (es:List (PyData × V)):List (PyData × V):=es.foldl (λM p=>ub M p.1 p.2) M
def cC (M es:List (PyData × V)) (k:PyData):V:=match es.reverse.find? (λp=>PyData.eqv p.1 k) with
|some p=>p.2
|none=>(cH M k).getD (.int 0)
def AE (es:List (PyData × V)) (k:PyData):Option V:=(es.reverse.find? λp=>PyData.eqv p.1 k).map (·.2)
theorem vO (M es:List (PyData × V)) (k:PyData):cC M es k=((AE es k).or (cH M k)).getD (.int 0):=by
 unfold cC AE;cases es.reverse.find? (λp=>PyData.eqv p.1 k)<;>rfl
theorem vo {k k':PyData}(h:MX.kd k=true) (h':MX.kd k'=true) (v:V):∀ {M:List (PyData × V)},KK M->cH (M.map λp=>if PyData.eqv p.1 k'=true then (p.1,v) else p) k=(cH M k).map λx=>if PyData.eqv k' k=true then v else x
|[],_=>rfl
|p :: r,kk=>by
  have ih:=vo h h' v (M:=r) λq hq=>kk q (mem_cons_of_mem _ hq)
  have kp:=kk p mem_cons_self;unfold cH at ih |-;rw[map_cons,find?_cons,find?_cons];have e1:(if PyData.eqv p.1 k'=true then (p.1,v) else p).1=p.1:=by split<;>rfl
  rw[e1];cases z:PyData.eqv p.1 k with
 |false=>exact ih
 |true =>
   have pk:=(MX.eqv_iff _ _ kp h).mp z;show some (if PyData.eqv p.1 k'=true then (p.1,v) else p).2=some (if PyData.eqv k' k=true then v else p.2);by_cases y:k'=k
   . subst y;rw[cO h',z];rfl
   . rw[eQ h' h y,pk,eQ h h' λq=>y q.symm];rfl
theorem vp {M:List (PyData × V)}{k k':PyData}(kk:KK M) (h':MX.kd k'=true) (h:MX.kd k=true) (v:V):cH (ub M k' v) k=if PyData.eqv k' k=true then some v else cH M k:=by
 by_cases n:k'∈M.map (·.1)
 . obtain⟨p,hp,e⟩:=mem_map.mp n;have ha:(M.any λp=>PyData.eqv p.1 k')=true:=any_eq_true.mpr ⟨p,hp,by rw[e];exact cO h'⟩;unfold ub;rw[if_pos ha,vo h h' v kk];by_cases y:k'=k
   . subst y;rw[cO h'];have:(cH M k').isSome=true:=by
      unfold cH;rw[isSome_map,List.find?_isSome];exact⟨p,hp,by rw[e];exact cO h'⟩
     cases z:cH M k' with
    |none=>rw[z]at this;cases this
    |some x=>rfl
   . rw[eQ h' h y];cases cH M k<;>rfl
 . rw[xH h' kk n];unfold cH;rw[List.find?_append,find?_cons];by_cases y:k'=k
   . subst y;have z:=rm h' kk n;unfold cH at z;rw[Option.map_eq_none_iff]at z;rw[z,cO h'];rfl
   . rw[eQ h' h y];cases M.find? (λp=>PyData.eqv p.1 k)<;>rfl
mutual
theorem ym {H:Hp}{D:Addr}{o:HO}(hD:H D=none) (ho:∀ xs,o≠.tup xs):∀ {k:PyData}{y:V},MX.kd k=true->DV (upd H D o) k y->DV H k y
|.int _,_,_,e=>e
|.str _,_,_,e=>e
|.tuple ds,_,h,⟨a,vs,e,ha,hv⟩=>by
  have ne:a≠D:=λz=>by
   rw[z,a6]at ha;exact ho vs (Option.some.inj ha)
  exact⟨a,vs,e,by rw[aa ne]at ha;exact ha,vw hD ho h hv⟩
|.none,_,h,_=>by cases h
|.bool _,_,h,_=>by cases h
|.list _,_,h,_=>by cases h
|.dict _,_,h,_=>by cases h
theorem vw {H:Hp}{D:Addr}{o:HO}(hD:H D=none) (ho:∀ xs,o≠.tup xs):∀ {ds:List PyData}{vs:List V},MX.kds ds=true->DVs (upd H D o) ds vs->DVs H ds vs
|[],_,_,e=>e
|d :: ds,_,h,⟨v,r,e,h1,h2⟩=>by
  have h':(MX.kd d && MX.kds ds)=true:=h;rw[and_eq_true]at h';exact⟨v,r,e,ym hD ho h'.1 h1,vw hD ho h'.2 h2⟩
end
theorem mem_of_lookup {β:Type}{y:Str}{c:β}:∀ {l:List (Str × β)},l.lookup y=some c->(y,c)∈l
|[],h=>by cases h
|(k,v) :: r,h=>by
  rw[List.lookup_cons]at h;cases e:y == k with
 |true =>
   rw[e]at h;cases h;rw[beq_iff_eq.mp e];exact mem_cons_self
 |false =>
   rw[e]at h;exact mem_cons_of_mem _ (mem_of_lookup h)
def ck (X:Cx) (scope:Scope) (cl:List (Str × Addr)) (C:Addr) (xs N':List Str) (s₃:Shared) (H₃:Hp) (pins:List (Addr × Obj)) (ex:List Addr) (E':Value->Shared->Prop):Cx :=
 { X with N:=N',s₀:=s₃,H₀:=H₃,env:=compEnvC scope cl C X.env,outer:=X.stack,stack:=X.stack,ex:=ex,fn:=λy=>xs.contains y,pn:=X.pn++pins,xe:=E' }
abbrev cxR (X:Cx) (scope:Scope) (cl:List (Str × Addr)) (xs caps:List Str) (s₃:Shared) (H₃:Hp) (pins:List (Addr × Obj)) (fp:List Addr) (R:Result->Shared->Prop):Cx:=ck X scope cl s₃.heap.objs.size xs (xs++caps) s₃ H₃ pins fp (notedBy (model X.prog X.w) X.A (compEnvC scope cl s₃.heap.objs.size X.env) λe s'=>R (.error e) s')
structure CompOk (X:Cx) (scope:Scope) (cl:List (Str × Addr)) (xs:List Str):Prop where
 kind:scope.kind=.function
 clos:closureFor scope X.env=pure cl
 nocell:∀ y∈scope.names,y.2≠.cell
 names:∀ y∈scope.names,y.2=.local->scope.names.lookup y.1=some .local
 xloc:∀ x∈xs,scope.names.lookup x=some .local
 sub:∀ p∈cl,X.env.cells.lookup p.1=some p.2
 has:∀ p∈scope.names,p.2=.free->∃ c,cl.lookup p.1=some c
 nox:∀ x∈xs,cl.lookup x=none
def A9 (X:Cx) (scope:Scope) (cl:List (Str × Addr)):List Str->List Nat->Prop
|[],[]=>True
|y :: ys,j :: js=>((∃ c,cl.lookup y=some c)/\X.N[j]?=some y/\(X.env.scope.names.lookup y=some .cell\/X.env.scope.names.lookup y=some .free)/\((relabel scope X.env).names.lookup y=some .cell\/(relabel scope X.env).names.lookup y=some .free))/\A9 X scope cl ys js
|_,_=>False
theorem A9.len {X:Cx}{scope:Scope}{cl:List (Str × Addr)}:∀ {caps:List Str}{js:List Nat},A9 X scope cl caps js->caps.length=js.length
|[],[],_=>rfl
|_ :: _,_ :: _,⟨_,h⟩=>by rw[length_cons,length_cons,h.len]
theorem A9.at' {X:Cx}{scope:Scope}{cl:List (Str × Addr)}{y:Str}:∀ {caps:List Str}{js:List Nat}{i:Nat},A9 X scope cl caps js->caps[i]?=some y->∃ j,js[i]?=some j/\(∃ c,cl.lookup y=some c)/\X.N[j]?=some y/\(X.env.scope.names.lookup y=some .cell\/X.env.scope.names.lookup y=some .free)/\((relabel scope X.env).names.lookup y=some .cell\/(relabel scope X.env).names.lookup y=some .free)
|[],[],_,_,e=>by simp at e
|_ :: _,j :: _,0,⟨h,_⟩,e=>by cases e;exact⟨j,rfl,h⟩
|_ :: _,_ :: _,i+1,⟨_,h⟩,e=>h.at' (i:=i) e
def PTs (X:Cx) (ifs:List Expr) (t:TT):Prop :=
 ∀ (pins:List (Addr × Obj)) (s:Shared) (σ:St) (H:Hp) (Q:Bool->Hp->Prop),Inv X pins σ H s->t σ H Q ->
  wpAny (model X.prog X.w) X.A (forIn ifs true λc r=>if r=true then do let ok <-isTrue c X.env (eval c X.env);pure (ForInStep.yield ok) else pure (ForInStep.yield r)) (TP X pins σ Q) X.xe s
theorem mV {X:Cx}:PTs X [] (λ_ H Q=>Q true H):=λpins s σ H Q I h=>by
 rw[forIn_nil];exact wpAny_pure ⟨H,I,h⟩
theorem rc {X:Cx}{c:Expr}{t:TT}(h:PT X c t):PTs X [c] t:=λpins s σ H Q I q=>wpAny_tests_one (h pins s σ H Q I q)
def oZ (σ:St) (js:List Nat):St:=js.map λj=>(σ[j]?).getD none
def GE (wi:TI) (js:List Nat) (tc:TT) (te:TE):TE:=λσ H Q=>wi σ H λJ H1=>∀ D,H1 D=none->∃ W:Nat->Nat->List V->Hp->Prop,(∃ m,W 0 m [] (upd H1 D (.lst []))) /\
 ∀ i m ys H2,W i m ys H2->H2 D=some (.lst ys)/\ys.length < sizeLine/\((J.stop i H2/\Q (.ref D) H2)\/(J.go i H2/\∀ x H3,J.yld i H2 x H3 ->
  tc (some x :: oZ σ js) H3 λb H4=>if b=true then te (some x :: oZ σ js) H4 λy H5=>H5 D=some (.lst ys)/\∃ m',m' < m/\W (i+1) m' (ys++[y]) (upd H5 D (.lst (ys++[y])))
   else ∃ m',m' < m/\W (i+1) m' ys H4))
def Fs (wi:TI) (g:TG) (js:List Nat) (tc:TT) (te:TE):TE:=λσ H Q=>wi σ H λJ H1=>∀ D,H1 D=none->∃ W:Nat->Nat->List V->Hp->Prop,(∃ m,W 0 m [] (upd H1 D (.lst []))) /\
 ∀ i m ys H2,W i m ys H2->H2 D=some (.lst ys)/\ys.length < sizeLine/\((J.stop i H2/\Q (.ref D) H2)\/(J.go i H2/\∀ x H3,J.yld i H2 x H3->∀ v0 v1:Option V,
  g x (v0 :: v1 :: oZ σ js) H3 λσ' H'=>∃ v0' v1',σ'=v0' :: v1' :: oZ σ js/\tc σ' H' λb H4=>if b=true then te σ' H4 λy H5=>H5 D=some (.lst ys)/\∃ m',m' < m/\W (i+1) m' (ys++[y]) (upd H5 D (.lst (ys++[y])))
   else ∃ m',m' < m/\W (i+1) m' ys H4))
def Et (wi:TI) (g:TG) (js:List Nat) (tc:TT) (te:TE):TE:=λσ H Q=>wi σ H λJ H1=>∀ D,H1 D=none->∃ W:Nat->Nat->List V->Hp->Prop,(∃ m,W 0 m [] (upd H1 D (.lst []))) /\
 ∀ i m ys H2,W i m ys H2->H2 D=some (.lst ys)/\ys.length < sizeLine/\((J.stop i H2/\Q (.ref D) H2)\/(J.go i H2/\∀ x H3,J.yld i H2 x H3->∀ v0 v1 v2:Option V,
  g x (v0 :: v1 :: v2 :: oZ σ js) H3 λσ' H'=>∃ v0' v1' v2',σ'=v0' :: v1' :: v2' :: oZ σ js/\tc σ' H' λb H4=>if b=true then te σ' H4 λy H5=>H5 D=some (.lst ys)/\∃ m',m' < m/\W (i+1) m' (ys++[y]) (upd H5 D (.lst (ys++[y])))
   else ∃ m',m' < m/\W (i+1) m' ys H4))
def RN (n:Nat) (g:TG) (js:List Nat) (tc:TT) (te:TE) (σ:St) (Q:VK) (J:It) (H1:Hp):Prop:=∀ D,H1 D=none->∃ W:Nat->Nat->List V->Hp->Prop,(∃ m,W 0 m [] (upd H1 D (.lst []))) /\
 ∀ i m ys H2,W i m ys H2->H2 D=some (.lst ys)/\ys.length < sizeLine/\((J.stop i H2/\Q (.ref D) H2)\/(J.go i H2/\∀ x H3,J.yld i H2 x H3->∀ vs:St,vs.length=n->∃ Pk:St->Hp->Prop,g x (vs++oZ σ js) H3 Pk/\∀ σ' H',Pk σ' H'->∃ vs':St,vs'.length=n/\σ'=vs'++oZ σ js /\
  tc σ' H' λb H4=>if b=true then te σ' H4 λy H5=>H5 D=some (.lst ys)/\∃ m',m' < m/\W (i+1) m' (ys++[y]) (upd H5 D (.lst (ys++[y])))
   else ∃ m',m' < m/\W (i+1) m' ys H4))
theorem Cs {X:Cx}{x1 x2:Str}{p1 p2 pos:Pos}{k:Nat}(hc:X.calm=true) (hN:X.N.Nodup) (h0:X.N[0]?=some x1) (h1:X.N[1]?=some x2) (l1:Loc X.env.scope x1) (l2:Loc X.env.scope x2) (f1:X.fn x1=true) (f2:X.fn x2=true) :
 PG X (.Tuple [.Name x1 p1,.Name x2 p2] k pos) (Ei X.K 2 (lK (jg 0) (lK (jg 1) Eh))) :=
 jw hc (b8 (aR hN h0 l1 (.inl f1)) (b8 (aR hN h1 l2 (.inl f2)) gn))
theorem AG {X:Cx}{x1 x2 x3:Str}{p1 p2 p3 pos:Pos}{k:Nat}(hc:X.calm=true) (hN:X.N.Nodup) (h0:X.N[0]?=some x1) (h1:X.N[1]?=some x2) (h2:X.N[2]?=some x3) (l1:Loc X.env.scope x1) (l2:Loc X.env.scope x2) (l3:Loc X.env.scope x3) (f1:X.fn x1=true) (f2:X.fn x2=true) (f3:X.fn x3=true) :
 PG X (.Tuple [.Name x1 p1,.Name x2 p2,.Name x3 p3] k pos) (Ei X.K 3 (lK (jg 0) (lK (jg 1) (lK (jg 2) Eh)))) :=
 jw hc (b8 (aR hN h0 l1 (.inl f1)) (b8 (aR hN h1 l2 (.inl f2)) (b8 (aR hN h2 l3 (.inl f3)) gn)))
abbrev CU (ifs:List Expr) (env:Env):Sem Bool:=forIn ifs true λc r=>if r=true then do
 let ok <-isTrue c env (eval c env)
 pure (ForInStep.yield ok) else pure (ForInStep.yield r)
theorem Al {P:Program}{w:World}{A:Around}{R:Result->Shared->Prop}{s:Shared}{elt tg iter:Expr}{ifs:List Expr}{sc:Scope}{ps:Pos}{it acc:Value}{env:Env}(J:Nat->Shared->Prop)
 (turn:∀ k t,J k t->wpAny (model P w) A (pyNext it) (λo t1=>match o with
 |none=>R (.ok .next) t1
 |some y=>wpAny (model P w) A (letOwnedTupleGo tg it y) (λ_ t2=>wpAny (model P w) A (assign tg env y) (λ_ t3=>wpAny (model P w) A (CU ifs env) (λok t4 =>
   if ok=true then wpAny (model P w) A (eval elt env) (λx t5=>wpAny (model P w) A (call (.builtin "list.append") [acc,x]) (λ_ t6=>∃ j,j < k/\J j t6) (notedBy (model P w) A env λe t'=>R (.error e) t') t5) (notedBy (model P w) A env λe t'=>R (.error e) t') t4
   else ∃ j,j < k/\J j t4) (notedBy (model P w) A env λe t'=>R (.error e) t') t3) (notedBy (model P w) A env λe t'=>R (.error e) t') t2) (notedBy (model P w) A env λe t'=>R (.error e) t') t1) (notedBy (model P w) A env λe t'=>R (.error e) t') t)
 (k:Nat) (h:J k s):codeAny (model P w) A (.compLoop (.ListComp elt [⟨tg,iter,ifs,0⟩] sc ps) 0 it acc env) R s:=by
 refine codeAny_loop rfl J (λk t hJ=>?_) k h;show wpAny _ A (Sem.onRaise (compTurn (.ListComp elt [⟨tg,iter,ifs,0⟩] sc ps) 0 it acc env) (λy=>do noteFrame y env;theTreesLotGoes y)) _ _ t;refine wpAny_noted ?_;rw[compTurn_list];refine wpAny_bind (wpAny_standAt (wpAny_bind (thn (turn k t hJ) λo t1 h1=>?_)));cases o with
|none=>exact wpAny_pure h1
|some y =>
  refine wpAny_bind (thn h1 λ_ t2 h2=>wpAny_bind (thn h2 λ_ t3 h3=>wpAny_bind (thn h3 λok t4 h4=>?_)));cases ok with
 |false=>exact wpAny_pure ⟨rfl,h4⟩
 |true =>
   rw[if_pos rfl]at h4;refine wpAny_bind (wpAny_bind (thn h4 λx t5 h5=>wpAny_bind (thn h5 λ_ t6 h6=>?_)));exact wpAny_pure (wpAny_pure ⟨rfl,h6⟩)
section
variable {X:Cx}{scope:Scope}{cl:List (Str × Addr)}{xs N':List Str}
theorem va {names:List (Str × NameKind)}{env:Env}{y:Str}{k:NameKind}(h:(names.map λ(n,k)=>if (k == NameKind.free && env.scope.kind == .function && env.kindOf n == some .cell) then (n,NameKind.cell) else (n,k)).lookup y=some k) (hk:k=.cell\/k=.free) (hn:∀ p∈names,p.2≠.cell):∃ p∈names,p.1=y/\p.2=.free:=by
 obtain⟨⟨n,k0⟩,hp,e⟩:=mem_map.mp (mem_of_lookup h);dsimp only at e;split at e
 . rename_i hc;injection e with e1 e2
   refine⟨_,hp,e1,?_⟩;rw[and_eq_true,and_eq_true]at hc;exact beq_iff_eq.mp hc.1.1
 . injection e with e1 e2
   refine⟨_,hp,e1,?_⟩;rcases hk with rfl|rfl
   . exact absurd e2 (hn _ hp)
   . exact e2
theorem xD {pins:List (Addr × Obj)}{σ:St}{H₃:Hp}{s₃:Shared}{ex:List Addr}{E':Value->Shared->Prop}(O:CompOk X scope cl xs) (I:Inv X pins σ H₃ s₃) (hf:∀ b∈ex,x8 X pins H₃ b/\b < s₃.heap.objs.size) :
 (ck X scope cl s₃.heap.objs.size xs N' s₃ H₃ pins ex E').Ok where
 mod:=I.ok.mod
 kind:=O.kind
 glob:=I.ok.glob
 blt:=I.ok.blt
 above:=Nat.le_refl _
 inj:=λy z c h1 h2=>I.ok.inj y z c (O.sub _ (mem_of_lookup h1)) (O.sub _ (mem_of_lookup h2))
 has:=λy h=>by
  have h':∃ k,(relabel scope X.env).names.lookup y=some k/\(k=.cell\/k=.free):=by
   rcases h with h|h
   . exact⟨_,h,.inl rfl⟩
   . exact⟨_,h,.inr rfl⟩
  obtain⟨k,e,hk⟩:=h';obtain⟨p,hp,rfl,e2⟩:=va e hk O.nocell;exact O.has p hp e2
 cab:=λy c h1 h2=>by
  have h2':cl.lookup y=some c:=h2;rw[O.nox y (contains_iff_mem.mp h1)]at h2';cases h2'
 hd:=I.ok.hd
 frames:=I.ok.frames
 stk:=.inl rfl
 exf:=λb hb=>⟨ne_of_lt (hf b hb).2,λy c e=>(hf b hb).1.2.2.2.2.1 y c (O.sub _ (mem_of_lookup e))⟩
 bs:=I.bs
 bsz:=Nat.le_trans I.ok.bsz I.sz
 noex:=λb o e hb=>by
  obtain⟨_,_,_,h4,_⟩:=(hf b hb).1;rcases h4 with z|z
  . exact I.ok.noex b o e z
  . have g1:b < X.base.objs.size:=Heap.lt_size e;exact absurd (Nat.lt_of_lt_of_le g1 (Nat.le_trans I.ok.bsz z)) (Nat.lt_irrefl _)
 exfs:=λb hb z=>by
  obtain⟨_,h2,h3,_⟩:=(hf b hb).1;rcases mem_cons.mp (I.stkSub b z) with q|q
  . exact h2 q
  . exact h3 q
 funs:=I.stack
 frf:=I.stkFree
theorem Inv.block {pins:List (Addr × Obj)}{σ σ':St}{H₃ H':Hp}{s₃ s':Shared}{ex:List Addr}{E':Value->Shared->Prop}{h':Heap}(I:Inv X pins σ H₃ s₃) (hf:∀ b∈ex,x8 X pins H₃ b)
 (I':Inv (ck X scope cl s₃.heap.objs.size xs N' s₃ H₃ pins ex E') [] σ' H' s') (hs:Heap.SameBut s₃.heap.objs.size s'.heap h'):Inv X pins σ H' { s' with heap:=h' }:=by
 have ne:∀ b o,s₃.heap.get? b=some o->b≠s₃.heap.objs.size:=λb o e=>ne_of_lt (Heap.lt_size e)
 have fr:H' s₃.heap.objs.size=none:=I'.free;have hok:HOk X.prog X.w H' h':=λa o e=>by
  refine(I'.hok a o e).stay (λb u hb q=>(hs.2 b ?_).trans q) (λ_ q=>q) λ_ _ q=>q
  rintro rfl;rcases hb with z|z
  . rw[<-z,fr]at e;cases e
  . rw[fr]at z;cases z
 have u:Un (frs X.stack) ex H₃ H' s₃.heap h':=by
  obtain⟨k1,k2,k3,k4,k5,k6,k7⟩:=I'.base;refine⟨λb o q n hb hx=>(hs.2 b (ne b o q)).trans (k1 b o q n hb hx),λb o q n hb hx=>?_,k3,λb o q hx=>?_,k5,k6,k7⟩
  . obtain⟨sl,e⟩:=k2 b o q n hb hx;exact⟨sl,(hs.2 b (ne b o q)).trans e⟩
  . obtain⟨o',e⟩:=k4 b o q hx;exact⟨o',(hs.2 b (ne b o q)).trans e⟩
 exact I.call' (s':={ s' with heap:=h' }) I'.os u hok I'.bare λb hb=>⟨(hf b hb).2.2.2.1,(hf b hb).2.1,(hf b hb).2.2.2.2.1,(hf b hb).2.2.2.2.2⟩
theorem Inv.enter {pins:List (Addr × Obj)}{σ:St}{H₃:Hp}{s₃:Shared}{ex:List Addr}{E':Value->Shared->Prop}{caps:List Str}{js:List Nat}{h₁:Heap}{tk:Nat}(O:CompOk X scope cl xs) (I:Inv X pins σ H₃ s₃)
 (hf:∀ b∈ex,x8 X pins H₃ b/\b < s₃.heap.objs.size) (hcp:A9 X scope cl caps js)
 (hn:h₁.Ns s₃.heap.objs.size λ_=>none) (hk:∀ b o,s₃.heap.get? b=some o->h₁.get? b=some o) :
 Inv (ck X scope cl s₃.heap.objs.size xs (xs++caps) s₃ H₃ pins ex E') [] (replicate xs.length none++oZ σ js) H₃ { s₃ with heap:=h₁,toks:=tk }:=by
 have hlen:=hcp.len;obtain⟨m0,hm0,hl0⟩:=I.loc;refine⟨xD O I hf,rfl,I.bare,Un.kept hk,⟨_,hn,λi y v e1 e2 e3=>?_⟩,λy c e=>?_,I.hok.fresh (Nat.le_refl _),λy c e=>I.freeC y c (O.sub _ (mem_of_lookup e)),λp hp=>?_,I.hok.kept hk,?_⟩
 . have e1':(xs++caps)[i]?=some y:=e1;have e2':(replicate xs.length (none:Option V)++oZ σ js)[i]?=some (some v):=e2;by_cases hi:i < xs.length
   . rw[getElem?_append_left (by rw[length_replicate];exact hi),List.getElem?_replicate,if_pos hi]at e2';cases e2'
   . rw[List.getElem?_append_right (by omega)]at e1';rw[List.getElem?_append_right (by rw[length_replicate];omega),length_replicate]at e2';obtain⟨j,ej,⟨c,hc⟩,hN,hk1,hk2⟩:=hcp.at' e1';unfold oZ at e2';rw[getElem?_map,ej]at e2';have e3':(σ[j]?).getD none=some v:=by simpa using e2'
     have e4:σ[j]?=some (some v):=by
      cases q:σ[j]? with
     |none=>rw[q]at e3';cases e3'
     |some z=>rw[q]at e3';rw[show z=some v from e3']
     obtain⟨u,r,l⟩:=hl0 j y v hN e4 (by rcases hk1 with z|z;exact .inr (.inl z);exact .inr (.inr z));refine⟨u,r,.inr ⟨hk2,c,hc,?_⟩⟩;rcases l with⟨z,_⟩|⟨_,c',z1,o,z2,z3⟩
     . have z':X.env.scope.names.lookup y=some .local:=z;rcases hk1 with q|q<;>(rw[q]at z';cases z')
     . rw[O.sub _ (mem_of_lookup hc)]at z1;cases z1;exact⟨o,hk _ _ z2,z3⟩
 . obtain⟨v,o,z2,z3⟩:=I.cell y c (O.sub _ (mem_of_lookup e));exact⟨v,o,hk _ _ z2,z3⟩
 . have hp':p∈X.pn++pins:=by simpa [ck] using hp
   obtain⟨g1,g2,g3,g4,g5⟩:=I.pin p hp';refine⟨hk _ _ g1,g2,ne_of_lt (Heap.lt_size g1),λz=>?_,g5⟩;rcases mem_cons.mp (I.stkSub p.1 z) with q|q
   . exact g3 q
   . exact g4 q
 . show (replicate xs.length none++oZ σ js).length=(xs++caps).length;unfold oZ;rw[List.length_append,List.length_append,length_replicate,length_map,hlen]
theorem mZ {tg:Expr}{g:TG}{pos np:Pos}{iter elt:Expr}{ifs:List Expr}{caps:List Str}{js:List Nat}{wi:TI}{tc:TT}{te:TE}{use:Option (Value->Sem Unit)}{QQ:Value->Shared->Prop}{Q:VK}{Rd:It->Hp->Prop}{pins:List (Addr × Obj)}{s:Shared}{σ:St}{H:Hp}
 (hc:X.calm=true) (O:CompOk X scope cl xs) (hg:∀ C s₃ H₃ pins ex E',PG (ck X scope cl C xs (xs++caps) s₃ H₃ pins ex E') tg g)
 (hcp:A9 X scope cl caps js)
 (hi:PI X tg iter wi) (ht:∀ C s₃ H₃ pins ex E',PTs (ck X scope cl C xs (xs++caps) s₃ H₃ pins ex E') ifs tc) (he:∀ C s₃ H₃ pins ex E',PE (ck X scope cl C xs (xs++caps) s₃ H₃ pins ex E') elt te)
 (hs:∀ x,foldedSetIterable iter X.env x=pure x) (I:Inv X pins σ H s) (h:wi σ H Rd) (hR:∀ J H1,Rd J H1->RN xs.length g js tc te σ Q J H1)
 (fl:∀ (s₃:Shared) (H₃ H':Hp) (s':Shared) (D:Addr) (f:Flow) (mm:Str->Option Value),Inv X pins σ H₃ s₃->s'.heap.Ns s₃.heap.objs.size mm->H' s₃.heap.objs.size=none->(∀ h',Heap.SameBut s₃.heap.objs.size s'.heap h'->Inv X pins σ H' { s' with heap:=h' })->Q (.ref D) H'->compPost (model X.prog X.w) X.A X.xe use QQ (.ref D) s₃.heap.objs.size (.ok f) s') :
 wpAny (model X.prog X.w) X.A (comprehension (.ListComp elt [⟨tg,iter,ifs,0⟩] scope pos) scope X.env np (newList []) false (eval iter X.env) use) QQ X.xe s:=by
 refine wpAny_comprehension_free rfl hs O.clos O.kind O.names (thn (hi pins s σ H _ I h) λv s1 h1=>thn h1 λitv s2 ⟨it,fp,tn,J,H1,e,I2,T,t0,hf,q0⟩=>?_);subst e;have q:=hR _ _ q0;refine wpAny_newObj_type (wpAny_newFunctionEnv O.nocell (by intro y hy;cases hy) (λh₁ hns₁ hsb₁=>?_) O.kind);obtain⟨W,⟨m0,w0⟩,step⟩:=q s2.heap.objs.size (I2.hok.fresh (Nat.le_refl _));have I3:Inv X pins σ (upd H1 s2.heap.objs.size (.lst [])) { s2 with heap:=s2.heap.push { cls:=.type "list",data:=.seq ([]:List Value).toArray } }:=I2.lnew (t':=s2.toks) (its:=[]) .nil (zero_le _);have fpl:∀ b∈fp,b < s2.heap.objs.size:=λb hb=>by
  obtain⟨o,e,_⟩:=T.obj _ _ t0 b hb;exact Heap.lt_size e
 have hf3:∀ b∈fp,x8 X pins (upd H1 s2.heap.objs.size (.lst [])) b:=λb hb=>by
  obtain⟨f0,f⟩:=hf b hb;exact⟨by rw[aa (ne_of_lt (fpl b hb))];exact f0,f⟩
 generalize hs3:({ s2 with heap:=s2.heap.push { cls:=.type "list",data:=.seq ([]:List Value).toArray } }:Shared)=s₃ at *;generalize hH3:upd H1 s2.heap.objs.size (.lst [])=H₃ at *;have hsz:s2.heap.objs.size < s₃.heap.objs.size:=by rw[<-hs3];show _ < (s2.heap.push _).objs.size;rw[Heap.size_push];exact lt_succ_self _
 have hk2:∀ b o,s2.heap.get? b=some o->s₃.heap.get? b=some o:=λb o e=>by rw[<-hs3];exact Heap.get?_push_of_some _ e
 have hk3:∀ b o,s₃.heap.get? b=some o->h₁.get? b=some o:=λb o e=>hsb₁.extBut b o (ne_of_lt (Heap.lt_size e)) (Heap.get?_push_of_some _ e)
 have t3:tn 0 h₁:=T.keep _ _ _ t0 λb _ o e=>hk3 b o (hk2 b o e)
 have loop:∀ (R:Result->Shared->Prop),(∀ f s',(∃ σ' H',Inv (cxR X scope cl xs caps s₃ H₃ pins fp R) [] σ' H' s'/\Q (.ref s2.heap.objs.size) H')->R (.ok f) s') ->
  ∀ tk,codeAny (model X.prog X.w) X.A (.compLoop (.ListComp elt [⟨tg,iter,ifs,0⟩] scope pos) 0 (.ref it) (.ref s2.heap.objs.size) (compEnvC scope cl s₃.heap.objs.size X.env)) R { s₃ with heap:=h₁,toks:=tk }:=by
  intro R hR tk;have I4:=Inv.enter (E':=notedBy (model X.prog X.w) X.A (compEnvC scope cl s₃.heap.objs.size X.env) λe s'=>R (.error e) s') (tk:=tk) O I3 (λb hb=>⟨hf3 b hb,Nat.lt_trans (fpl b hb) hsz⟩) hcp (by simpa using hns₁) hk3;have stat:∀ {H':Hp},(∀ b∈fp,H' b=none)->∀ b∈fp,x8 (cxR X scope cl xs caps s₃ H₃ pins fp R) [] H' b:=λhn b hb=>by
   obtain⟨f0,f1,f2,f3,f4,f5⟩:=hf3 b hb;refine⟨hn b hb,ne_of_lt (Nat.lt_trans (fpl b hb) hsz),λz=>?_,.inl hb,λy c e=>f4 y c (O.sub _ (mem_of_lookup e)),λp hp=>f5 p (by simpa [cxR,ck] using hp)⟩;rcases mem_cons.mp (I3.stkSub b z) with q|q
   . exact f1 q
   . exact f2 q
  refine Al (λn s'=>∃ (i:Nat) (vs:St) (ys:List V) (H':Hp),vs.length=xs.length/\Inv (cxR X scope cl xs caps s₃ H₃ pins fp R) [] (vs++oZ σ js) H' s'/\tn i s'.heap/\(∀ b∈fp,H' b=none)/\W i n ys H') ?_ m0
   ⟨0,_,[],H₃,length_replicate,I4,t3,λb hb=>(hf3 b hb).1,w0⟩
  rintro n s4 ⟨i,vs,ys,H4,vl,J4,t4,fr4,w4⟩;obtain⟨hD,hlen,hor⟩:=step i n ys H4 w4;rcases hor with⟨stop,qn⟩|⟨go,hy⟩
  . refine thn (T.done (cxR X scope cl xs caps s₃ H₃ pins fp R) rfl rfl rfl hc i [] s4 _ H4 _ J4 (stat fr4) t4 stop) λr s5 ⟨hr,J5⟩=>?_
    subst hr;exact hR _ _ ⟨_,H4,J5,qn⟩
  . refine thn (T.item (cxR X scope cl xs caps s₃ H₃ pins fp R) rfl rfl rfl hc i [] s4 _ H4 _ J4 (stat fr4) t4 go) λr s5 ⟨u,hr,h5⟩=>?_
    subst hr;refine thn h5 λ_ s6 ⟨y,H6,J6,ry,yl,t6,fr6⟩=>?_
    have J6':=J6.pinned (stat fr6) (T.obj _ _ t6);obtain⟨Pk,hy6,hPk⟩:=hy y H6 yl vs vl;refine thn (hg _ _ _ _ _ _ _ s6 _ H6 y u _ J6' ry hy6) λ_ s7 ⟨σ7,H7,J7,q7⟩=>?_
    obtain⟨vs',vl',e7,hy7⟩:=hPk _ _ q7;subst e7;refine thn (ht _ _ _ _ _ _ _ s7 _ H7 _ J7 hy7) λok s8 ⟨H8,J8,q8⟩=>?_
    have back:∀ {σ9:St} {H9:Hp} {s9:Shared},Inv (cxR X scope cl xs caps s₃ H₃ pins fp R) ([]++tI fp s6.heap) σ9 H9 s9->tn (i+1) s9.heap/\∀ b∈fp,H9 b=none:=λJ9=>by
     refine⟨T.keep _ _ _ t6 λb hb o e=>(J9.pin (b,o) (mem_append_right _ (mem_append_right _ (jm hb e)))).1,λb hb=>?_⟩;obtain⟨o,e,d⟩:=T.obj _ _ t6 b hb;exact(J9.pin (b,o) (mem_append_right _ (mem_append_right _ (jm hb e)))).2.1
    cases ok with
   |false =>
     rw[if_neg (by decide)];rw[if_neg (by decide)]at q8;obtain⟨m',hm,w8⟩:=q8;obtain⟨b1,b2⟩:=back J8;exact⟨m',hm,i+1,vs',ys,H8,vl',J8.unpinned,b1,b2,w8⟩
   |true =>
     rw[if_pos rfl];rw[if_pos rfl]at q8;refine thn (he _ _ _ _ _ _ _ s8 _ H8 _ J8 q8) λz s9 ⟨vz,H9,J9,rz,hD9,m',hm,w9⟩=>?_
     refine thn (cZ (X:=(cxR X scope cl xs caps s₃ H₃ pins fp R)) _ s9 _ H9 (.ref s2.heap.objs.size) [vz] (.ref s2.heap.objs.size) [z] (λ_ H10=>H10=upd H9 s2.heap.objs.size (.lst (ys++[vz]))) J9 rfl (.cons rz .nil) ⟨_,ys,vz,rfl,rfl,hD9,hlen,rfl⟩) λ_ s10 ⟨v10,H10,J10,r10,e10⟩=>?_
     subst e10;obtain⟨b1,b2⟩:=back J10;exact⟨m',hm,i+1,vs',ys++[vz],_,vl',J10.unpinned,b1,b2,w9⟩
 have fin:∀ tk,codeAny (model X.prog X.w) X.A (.compLoop (.ListComp elt [⟨tg,iter,ifs,0⟩] scope pos) 0 (.ref it) (.ref s2.heap.objs.size) (compEnvC scope cl s₃.heap.objs.size X.env)) (compPost (model X.prog X.w) X.A X.xe use QQ (.ref s2.heap.objs.size) s₃.heap.objs.size) { s₃ with heap:=h₁,toks:=tk }:=λtk=>by
  refine loop _ (λf s' ⟨σ',H',J',qn⟩=>?_) tk;obtain⟨mm,hmm,_⟩:=J'.loc;exact fl s₃ H₃ H' s' _ f mm I3 hmm J'.free (λh' hs'=>Inv.block I3 hf3 J' hs') qn
 exact codeAny_compStart_list (fin _) (T.self _ _ _ _ _ t3 (fin _))
end
section
variable {X:Cx}{scope:Scope}{cl:List (Str × Addr)}{x x2 x3:Str}{js:List Nat}{tc:TT}{te:TE}{σ:St}{Q:VK}{J:It}{H1:Hp}{g:TG}{caps:List Str}{pos:Pos}{tg iter elt:Expr}{ifs:List Expr}{wi:TI}
theorem Hm (h:∀ D,H1 D=none->∃ W:Nat->Nat->List V->Hp->Prop,(∃ m,W 0 m [] (upd H1 D (.lst []))) /\
 ∀ i m ys H2,W i m ys H2->H2 D=some (.lst ys)/\ys.length < sizeLine/\((J.stop i H2/\Q (.ref D) H2)\/(J.go i H2/\∀ x H3,J.yld i H2 x H3 ->
  tc (some x :: oZ σ js) H3 λb H4=>if b=true then te (some x :: oZ σ js) H4 λy H5=>H5 D=some (.lst ys)/\∃ m',m' < m/\W (i+1) m' (ys++[y]) (upd H5 D (.lst (ys++[y])))
   else ∃ m',m' < m/\W (i+1) m' ys H4))):RN 1 (jg 0) js tc te σ Q J H1:=λD hD=>by
 obtain⟨W,w0,step⟩:=h D hD;refine⟨W,w0,λi m ys H2 hw=>?_⟩;obtain⟨a,b,c⟩:=step i m ys H2 hw;refine⟨a,b,c.imp_right λ⟨g1,g2⟩=>⟨g1,λx H3 yl vs hl=>?_⟩⟩
 match vs,hl with
|[v0],_=>exact⟨λσ' H'=>σ'=some x :: oZ σ js/\H'=H3,⟨rfl,rfl⟩,λσ' H' ⟨e1,e2⟩=>⟨[some x],rfl,e1,by rw[e1,e2];exact g2 x H3 yl⟩⟩
theorem I0 (h:∀ D,H1 D=none->∃ W:Nat->Nat->List V->Hp->Prop,(∃ m,W 0 m [] (upd H1 D (.lst []))) /\
 ∀ i m ys H2,W i m ys H2->H2 D=some (.lst ys)/\ys.length < sizeLine/\((J.stop i H2/\Q (.ref D) H2)\/(J.go i H2/\∀ x H3,J.yld i H2 x H3->∀ v0 v1:Option V,
  g x (v0 :: v1 :: oZ σ js) H3 λσ' H'=>∃ v0' v1',σ'=v0' :: v1' :: oZ σ js/\tc σ' H' λb H4=>if b=true then te σ' H4 λy H5=>H5 D=some (.lst ys)/\∃ m',m' < m/\W (i+1) m' (ys++[y]) (upd H5 D (.lst (ys++[y])))
   else ∃ m',m' < m/\W (i+1) m' ys H4))):RN 2 g js tc te σ Q J H1:=λD hD=>by
 obtain⟨W,w0,step⟩:=h D hD;refine⟨W,w0,λi m ys H2 hw=>?_⟩;obtain⟨a,b,c⟩:=step i m ys H2 hw;refine⟨a,b,c.imp_right λ⟨g1,g2⟩=>⟨g1,λx H3 yl vs hl=>?_⟩⟩
 match vs,hl with
|[v0,v1],_=>exact⟨_,g2 x H3 yl v0 v1,λσ' H' ⟨a1,a2,e1,e2⟩=>⟨[a1,a2],rfl,e1,e2⟩⟩
theorem HM (h:∀ D,H1 D=none->∃ W:Nat->Nat->List V->Hp->Prop,(∃ m,W 0 m [] (upd H1 D (.lst []))) /\
 ∀ i m ys H2,W i m ys H2->H2 D=some (.lst ys)/\ys.length < sizeLine/\((J.stop i H2/\Q (.ref D) H2)\/(J.go i H2/\∀ x H3,J.yld i H2 x H3->∀ v0 v1 v2:Option V,
  g x (v0 :: v1 :: v2 :: oZ σ js) H3 λσ' H'=>∃ v0' v1' v2',σ'=v0' :: v1' :: v2' :: oZ σ js/\tc σ' H' λb H4=>if b=true then te σ' H4 λy H5=>H5 D=some (.lst ys)/\∃ m',m' < m/\W (i+1) m' (ys++[y]) (upd H5 D (.lst (ys++[y])))
   else ∃ m',m' < m/\W (i+1) m' ys H4))):RN 3 g js tc te σ Q J H1:=λD hD=>by
 obtain⟨W,w0,step⟩:=h D hD;refine⟨W,w0,λi m ys H2 hw=>?_⟩;obtain⟨a,b,c⟩:=step i m ys H2 hw;refine⟨a,b,c.imp_right λ⟨g1,g2⟩=>⟨g1,λx H3 yl vs hl=>?_⟩⟩
 match vs,hl with
|[v0,v1,v2],_=>exact⟨_,g2 x H3 yl v0 v1 v2,λσ' H' ⟨a1,a2,a3,e1,e2⟩=>⟨[a1,a2,a3],rfl,e1,e2⟩⟩
theorem HH {px:Pos}{C:Addr}{s₃:Shared}{H₃:Hp}{pins:List (Addr × Obj)}{ex:List Addr}{E':Value->Shared->Prop}(O:CompOk X scope cl [x]) (hnd:(x :: caps).Nodup):PG (ck X scope cl C [x] ([x]++caps) s₃ H₃ pins ex E') (.Name x px) (jg 0) :=
 aR (i:=0) hnd rfl (.inl (lookup_relabel_local (O.xloc x mem_cons_self))) (.inl (show [x].contains x=true from contains_iff_mem.mpr mem_cons_self))
theorem uF {pins:List (Addr × Obj)}(s₃:Shared) (H₃ H':Hp) (s':Shared) (D:Addr) (f:Flow) (mm:Str->Option Value) (_:Inv X pins σ H₃ s₃) (hm:s'.heap.Ns s₃.heap.objs.size mm) (_:H' s₃.heap.objs.size=none) (hb:∀ h',Heap.SameBut s₃.heap.objs.size s'.heap h'->Inv X pins σ H' { s' with heap:=h' }) (qn:Q (.ref D) H'):compPost (model X.prog X.w) X.A X.xe none (EP X pins σ Q) (.ref D) s₃.heap.objs.size (.ok f) s' :=
 ⟨mm,hm,λh' hs'=>⟨.ref D,H',hb h' hs',rfl,qn⟩⟩
theorem o6 {px:Pos}(hc:X.calm=true) (O:CompOk X scope cl [x]) (hnd:(x :: caps).Nodup)
 (hcp:A9 X scope cl caps js)
 (hi:PI X (.Name x px) iter wi) (ht:∀ C s₃ H₃ pins ex E',PTs (ck X scope cl C [x] (x :: caps) s₃ H₃ pins ex E') ifs tc) (he:∀ C s₃ H₃ pins ex E',PE (ck X scope cl C [x] (x :: caps) s₃ H₃ pins ex E') elt te)
 (hs:∀ x,foldedSetIterable iter X.env x=pure x:=by intro _;rfl):PE X (.ListComp elt [⟨.Name x px,iter,ifs,0⟩] scope pos) (GE wi js tc te):=by
 intro pins s σ H Q I h;rw[eval_ListComp];exact mZ hc O (λ_ _ _ _ _ _=>HH O hnd) hcp hi ht he hs I h (λ_ _=>Hm) uF
theorem vM (hc:X.calm=true) (O:CompOk X scope cl [x,x2]) (hg:∀ C s₃ H₃ pins ex E',PG (ck X scope cl C [x,x2] (x :: x2 :: caps) s₃ H₃ pins ex E') tg g)
 (hcp:A9 X scope cl caps js)
 (hi:PI X tg iter wi) (ht:∀ C s₃ H₃ pins ex E',PTs (ck X scope cl C [x,x2] (x :: x2 :: caps) s₃ H₃ pins ex E') ifs tc) (he:∀ C s₃ H₃ pins ex E',PE (ck X scope cl C [x,x2] (x :: x2 :: caps) s₃ H₃ pins ex E') elt te)
 (hs:∀ x,foldedSetIterable iter X.env x=pure x:=by intro _;rfl):PE X (.ListComp elt [⟨tg,iter,ifs,0⟩] scope pos) (Fs wi g js tc te):=by
 intro pins s σ H Q I h;rw[eval_ListComp];exact mZ hc O hg hcp hi ht he hs I h (λ_ _=>I0) uF
theorem Ag (hc:X.calm=true) (O:CompOk X scope cl [x,x2,x3]) (hg:∀ C s₃ H₃ pins ex E',PG (ck X scope cl C [x,x2,x3] (x :: x2 :: x3 :: caps) s₃ H₃ pins ex E') tg g)
 (hcp:A9 X scope cl caps js)
 (hi:PI X tg iter wi) (ht:∀ C s₃ H₃ pins ex E',PTs (ck X scope cl C [x,x2,x3] (x :: x2 :: x3 :: caps) s₃ H₃ pins ex E') ifs tc) (he:∀ C s₃ H₃ pins ex E',PE (ck X scope cl C [x,x2,x3] (x :: x2 :: x3 :: caps) s₃ H₃ pins ex E') elt te)
 (hs:∀ x,foldedSetIterable iter X.env x=pure x:=by intro _;rfl):PE X (.ListComp elt [⟨tg,iter,ifs,0⟩] scope pos) (Et wi g js tc te):=by
 intro pins s σ H Q I h;rw[eval_ListComp];exact mZ hc O hg hcp hi ht he hs I h (λ_ _=>HM) uF
end
def xQ (env:Env):List (Str × Addr)->Prop
|[]=>True
|p :: r=>env.cells.lookup p.1=some p.2/\xQ env r
theorem xQ.all {env:Env}:∀ {cl:List (Str × Addr)},xQ env cl->∀ p∈cl,env.cells.lookup p.1=some p.2
|[],_,p,h=>by cases h
|q :: r,⟨a,b⟩,p,h=>by
  rcases mem_cons.mp h with rfl|h
  . exact a
  . exact xQ.all b p h
theorem uj {α β:Type}{f:α->β}{b:β}:∀ {xs:List α},xs.map f=xs.map (λ_=>b)->∀ x∈xs,f x=b
|[],_,_,h=>by cases h
|y :: ys,e,x,h=>by
  rw[map_cons,map_cons]at e;injection e with e1 e2
  rcases mem_cons.mp h with z|z
  . rw[z];exact e1
  . exact uj e2 x z
theorem lX {X:Cx}{scope:Scope}{cl:List (Str × Addr)}{xs:List Str}(kind:scope.kind=.function) (clos:closureFor scope X.env=pure cl) (nocell:∀ y∈scope.names,y.2≠.cell) (names:∀ y∈scope.names,y.2=.local->scope.names.lookup y.1=some .local)
 (xloc:xs.map (λx=>scope.names.lookup x)=xs.map λ_=>some .local) (sub:xQ X.env cl) (has:(scope.names.all λp=>p.2 != .free || (cl.lookup p.1).isSome)=true) (nox:xs.map (λx=>cl.lookup x)=xs.map λ_=>none):CompOk X scope cl xs :=
 ⟨kind,clos,nocell,names,uj xloc,sub.all,λp hp hf=>by
  have h:=all_eq_true.mp has p hp;rw[hf]at h;have h':(cl.lookup p.1).isSome=true:=by simpa using h
  exact Option.isSome_iff_exists.mp h',uj nox⟩
section
variable {X:Cx}
end
def HJ (t u:TS):TS:=λD σ H=>∃ B:St->Hp->Prop,t { D with nx:=B } σ H/\∀ σ' H',B σ' H'->u D σ' H'
theorem gA {X:Cx}{st:Stmt}{rest:List Stmt}{t u:TS}(h1:PS X st t) (h2:PSs X rest u):PSs X (st :: rest) (HJ t u):=by
 intro pins s σ H D I h;obtain⟨B,h,k⟩:=h;refine wpAny_execs_cons (thn (h1 pins s σ H { D with nx:=B } I h) λf s1 q=>?_);cases f with
|next =>
  obtain⟨σ',H',I',q⟩:=q;exact h2 pins s1 σ' H' D I' (k σ' H' q)
|ret v=>exact q
|brk=>exact q
|cont=>exact q
def Gz (t:TT):TT:=λσ H Q=>∃ B:Bool->Hp->Prop,t σ H B/\∀ b H',B b H'->Q b H'
theorem C6 {X:Cx}{e:Expr}{t:TT}(h:PT X e t):PT X e (Gz t):=by
 intro pins s σ H Q I q;obtain⟨B,q,k⟩:=q;exact thn (h pins s σ H B I q) λb s1 ⟨H1,I1,z⟩=>⟨H1,I1,k b H1 z⟩
mutual
theorem eqv_refl:∀ d:PyData,d.canLay0=true->PyData.eqv d d=true
|.none,_=>rfl
|.bool b,_=>by simp[PyData.eqv]
|.int i,_=>by simp[PyData.eqv]
|.str t,_=>by simp[PyData.eqv]
|.list xs,h=>by
  have h':PyData.canLayAll0 xs=true:=by simpa [PyData.canLay0] using h
  simpa [PyData.eqv] using jZ xs h'
|.tuple xs,h=>by
  have h':PyData.canLayAll0 xs=true:=by simpa [PyData.canLay0] using h
  simpa [PyData.eqv] using jZ xs h'
|.dict _,h=>by simp[PyData.canLay0]at h
theorem jZ:∀ xs:List PyData,PyData.canLayAll0 xs=true->PyData.eqvAll xs xs=true
|[],_=>rfl
|x :: xs,h=>by
  have h':x.canLay0=true/\PyData.canLayAll0 xs=true:=by simpa [PyData.canLayAll0] using h
  simp[PyData.eqvAll,eqv_refl x h'.1,jZ xs h'.2]
end
section
variable {X:Cx}{pos:Pos}
def GW (K:PySem.W.Frag):R2:=λx y H Q=>GY K x y H Q\/GC K x y H Q
theorem Cq:IxR X (GW X.K):=IxR.or bo ar
end
theorem lr {X:Cx}:mw X (.builtin "len") (λxs H Q=>∃ p ys,xs=[.ref p]/\(SqL X.K H p ys\/SqT X.K H p ys)/\(ys.length <= sizeLine->Q (.int ys.length) H)):=by
 intro pins s σ H xs us Q I r h;obtain⟨p,ys,e,hq,q⟩:=h;have hb:ys.length <= sizeLine:=by
  rcases hq with z|z
  . obtain⟨its,r',_,hz⟩:=I.list z;have:=r'.length;omega
  . obtain⟨its,r',_,hz⟩:=I.tuple z;have:=r'.length;omega
 exact bq pins s σ H xs us Q I r ⟨p,ys,e,hq,q hb⟩
theorem kA {K:PySem.W.Frag}{H:Hp}{p:Addr}{xs:List V}{i:Int}{v:V}{Q:VK}(h:SqL K H p xs\/SqT K H p xs) (e:atI xs i=some v) (q:Q v H):GW K (.ref p) (.int i) H Q:=by
 rcases h with h|h
 . exact .inl ⟨p,xs,i,v,rfl,rfl,h,e,q⟩
 . exact .inr ⟨p,xs,i,v,rfl,rfl,h,e,q⟩
theorem cT.here {P:Program}{w:World}{H:Hp}{h:Heap}{a:Addr}{o:HO}(x:cT P w H h a o):∃ ob,h.get? a=some ob:=by
 cases o with
|lst xs=>obtain⟨_,_,_,_,e⟩:=x;exact⟨_,e⟩
|tup xs=>obtain⟨_,_,_,_,e,_⟩:=x;exact⟨_,e⟩
|dK kvs=>obtain⟨_,_,_,_,o,_,_,e,_⟩:=x;exact⟨_,e⟩
|dT kvs=>obtain⟨_,_,_,_,o,_,_,e,_⟩:=x;exact⟨_,e⟩
|set S n=>obtain⟨o,_,_,_,e,_⟩:=x;exact⟨_,e⟩
|ins C dx fs=>obtain⟨_,_,_,e,_⟩:=x;exact⟨_,e⟩
|own y=>exact x
|xd fs=>obtain⟨_,⟨_,_,_,e,_⟩,_⟩:=x;exact⟨_,e⟩
|rng lo hi=>obtain⟨_,_,_,e⟩:=x;exact⟨_,e⟩
|frz ob u=>exact⟨_,x.1⟩
|tbl ps=>exact⟨_,show h.get? a=some _ from x⟩
|met f y=>exact⟨_,show h.get? a=some _ from x⟩
|ext φ=>exact x.2.1
theorem HOk.nothing {P:Program}{w:World}{H:Hp}{h:Heap}{a:Addr}(ok:HOk P w H h) (e:h.get? a=none):H a=none:=by
 cases q:H a with
|none=>rfl
|some o =>
  obtain⟨ob,e'⟩:=(ok a o q).here;rw[e']at e;cases e
def Trc (h:Heap) (e T:Addr) (cls fl:Value):Prop :=
 ∃ oe vs oT ts a0,h.get? e=some oe/\(oe.cls=cls/\vs[0]?=some a0)/\oe.data=.fields vs/\vs[1]?=some (.ref T)/\T≠e/\h.get? T=some oT/\oT.data=.fields ts/\ts[3]?=some fl
theorem Trc.on {h B:Heap}{e T:Addr}{cls fl:Value}(x:Trc h e T cls fl) (hB:B.get? T=none):∃ a0,h.TracedAtW B e cls a0 fl:=by
 obtain⟨oe,vs,oT,ts,a0,h1,h2,h3,h4,h5,h6,h7,h8⟩:=x;exact⟨a0,oe,vs,T,oT,ts,h1,h2,h3,h4,hB,h5,h6,h7,h8⟩
def Apt (X:Cx) (pins:List (Addr × Obj)) (H:Hp) (b:Addr):Prop :=
 X.s₀.heap.get? b=none/\H b=none/\b≠X.env.locals/\(∀ x c,X.env.cells.lookup x=some c->c≠b)/\∀ p∈X.pn++pins,p.1≠b
section
variable {X:Cx}{pins:List (Addr × Obj)}{σ:St}{H H':Hp}{s:Shared}{h':Heap}
theorem Inv.apt (I:Inv X pins σ H s) (hx:X.ex=[]) {b:Addr}(e:s.heap.get? b=none) (n:H' b=none):Apt X pins H' b:=by
 refine⟨?_,n,?_,λx c hc z=>?_,λp hp z=>?_⟩
 . cases q:X.s₀.heap.get? b with
  |none=>rfl
  |some o =>
    obtain⟨o',e'⟩:=I.base.there b o q (by rw[hx];simp);rw[e]at e';cases e'
 . rintro rfl;obtain⟨m,⟨o,_,_,ho,_⟩,_⟩:=I.loc;rw[e]at ho;cases ho
 . obtain⟨v,o,ho,_⟩:=I.cell x c hc;rw[z,e]at ho;cases ho
 . have ho:=(I.pin p hp).1;rw[z,e]at ho;cases ho
theorem Inv.fsIn (I:Inv X pins σ H s):∀ b∈X.fs,b∈frs X.stack:=λb hb=>by
 rcases I.ok.stk with e|⟨e,f⟩
 . rw[e];exact hb
 . rw[e];show b∈List.filterMap (·.frame) (X.env :: X.outer);rw[filterMap_cons,f];exact mem_cons_of_mem _ hb
theorem Inv.moved (I:Inv X pins σ H s) (ch:List Addr) (hch:∀ b∈ch,Apt X pins H b) (keep:∀ b o,b ∉ ch->b ∉ frs X.stack->s.heap.get? b=some o->h'.get? b=some o)
 (slot:∀ b o,b∈frs X.stack->s.heap.get? b=some o->∃ sl,h'.get? b=some { o with slots:=sl }):Inv X pins σ H { s with heap:=h' }:=by
 have up:∀ b o,b ∉ ch->s.heap.get? b=some o->∃ sl,h'.get? b=some { o with slots:=sl }:=λb o n e=>by
  by_cases z:b∈frs X.stack
  . exact slot b o z e
  . exact⟨o.slots,keep b o n z e⟩
 have neL:∀ b o,X.s₀.heap.get? b=some o->b≠X.env.locals:=λb o e=>ne_of_lt (Nat.lt_of_lt_of_le (Heap.lt_size e) I.ok.above)
 have neC:∀ b o,X.s₀.heap.get? b=some o->b ∉ ch:=λb o e z=>by
  rw[(hch b z).1]at e;cases e
 have nst:∀ b,b≠X.env.locals->b ∉ X.fs->b ∉ frs X.stack:=λb n1 n2 z=>(mem_cons.mp (I.stkSub b z)).elim n1 n2
 have cellU:∀ x c,X.env.cells.lookup x=some c->∀ v,s.heap.IsCell c v->h'.IsCell c v:=λx c hc v ⟨o,ho,hd⟩=>by
  obtain⟨sl,q⟩:=up c o (λz=>(hch c z).2.2.2.1 x c hc rfl) ho;exact⟨_,q,hd⟩
 refine⟨I.ok,I.os,I.bare,⟨λb o e n hb hx=>?_,λb o e n hb hx=>?_,I.base.free,λb o e hx=>?_,I.base.tups,I.base.frzs,I.base.tbls⟩,?_,λx c e=>?_,I.free,I.freeC,λp hp=>?_,λa o e=>?_,I.len⟩
 . exact keep b o (neC b o e) (nst b (neL b o e) hb) (I.base.keep b o e n hb hx)
 . obtain⟨sl,e1⟩:=I.base.slot b o e n hb hx;obtain⟨sl',e2⟩:=slot b _ (I.fsIn b hb) e1;exact⟨sl',e2⟩
 . obtain⟨o',e1⟩:=I.base.there b o e hx;obtain⟨sl,e2⟩:=up b o' (neC b o e) e1;exact⟨_,e2⟩
 . obtain⟨m,⟨o,es,ep,ho,r⟩,hl⟩:=I.loc;obtain⟨sl,q⟩:=up _ o (λz=>(hch _ z).2.2.1 rfl) ho;refine⟨m,⟨_,es,ep,q,r⟩,λi x v e1 e2 e3=>?_⟩;obtain⟨u,r',l⟩:=hl i x v e1 e2 e3;refine⟨u,r',?_⟩;rcases l with l|⟨k,c,e,z⟩
   . exact .inl l
   . exact .inr ⟨k,c,e,cellU x c e _ z⟩
 . obtain⟨v,z⟩:=I.cell x c e;exact⟨v,cellU x c e v z⟩
 . obtain⟨e,n,ne,nf,d⟩:=I.pin p hp;exact⟨keep p.1 p.2 (λz=>(hch p.1 z).2.2.2.2 p hp rfl) (nst p.1 ne nf) e,n,ne,nf,d⟩
 . refine(I.hok a o e).stay (λb u hb q=>keep b u (λz=>?_) (λz=>?_) q) (λ_ q=>q) λ_ _ q=>q
   . have n:=(hch b z).2.1;rcases hb with rfl|hb
     . rw[n]at e;cases e
     . rw[n]at hb;cases hb
   . have n:=I.stkFree b z;rcases hb with rfl|hb
     . rw[n]at e;cases e
     . rw[n]at hb;cases hb
abbrev hid (X:Cx) (h:Heap) (e T:Addr):Heap:=hideAll h (e :: T :: frs X.stack)
theorem kN {h:Heap}{e T:Addr}:(hid X h e T).StaysIn h:=λ_ _ q=>of_hideAll _ q
theorem ji {h:Heap}{e T:Addr}(F:h.FunFrames X.base X.stack):h.FunFrames (hid X h e T) X.stack :=
 funFrames_hide F λenv he a ha=>mem_cons_of_mem _ (mem_cons_of_mem _ (mem_filterMap.mpr ⟨env,he,ha⟩))
theorem CA {h:Heap}{e T:Addr}:(hid X h e T).get? e=none:=hideAll_none _ mem_cons_self
theorem CD {h:Heap}{e T:Addr}:(hid X h e T).get? T=none:=hideAll_none _ (mem_cons_of_mem _ mem_cons_self)
theorem Inv.flown (hx:X.ex=[]) (I:Inv X pins σ H s) {e T:Addr}{cls a0 fl:Value}(aE:Apt X pins H e) (aT:Apt X pins H T) (k1:(hid X s.heap e T).StaysIn h') (k2:h'.FunFrames (hid X s.heap e T) X.stack)
 (k3:h'.TracedAtW (hid X s.heap e T) e cls a0 fl) (k4:s.heap.UpToSlots h'):Inv X pins σ H { s with heap:=h' }/\∃ T',Trc h' e T' cls fl/\Apt X pins H T':=by
 refine⟨I.moved [e,T] (λb hb=>?_) (λb o n1 n2 q=>?_) (λb o hb q=>?_),?_⟩
 . rcases mem_cons.mp hb with rfl|hb
   . exact aE
   . rw[mem_singleton.mp hb];exact aT
 . refine k1 b o (hideAll_get _ q λz=>?_);rcases mem_cons.mp z with z|z
   . exact n1 (by rw[z];exact mem_cons_self)
   . rcases mem_cons.mp z with z|z
     . exact n1 (by rw[z];simp)
     . exact n2 z
 . obtain⟨_,o',e',hd⟩:=I.stack.mem hb;rw[q]at e';cases e';exact k4 b o q hd
 . obtain⟨oe,vs,T',oT,ts,h1,h2,h3,h4,h5,h6,h7,h8,h9⟩:=k3;refine⟨T',⟨oe,vs,oT,ts,a0,h1,h2,h3,h4,h6,h7,h8,h9⟩,?_⟩;by_cases z:T'=T
   . rw[z];exact aT
   . have nf:T' ∉ frs X.stack:=λy=>by
      obtain⟨_,o',e',hd⟩:=k2.mem y;rw[h7]at e';cases e';exact hd _ h8
     have hn:s.heap.get? T'=none:=by
      cases q:s.heap.get? T' with
     |none=>rfl
     |some o =>
       have:=hideAll_get (e :: T :: frs X.stack) q λy=>by
        rcases mem_cons.mp y with y|y
        . exact h6 y
        . rcases mem_cons.mp y with y|y
          . exact z y
          . exact nf y
       rw[h5]at this;cases this
     exact I.apt hx hn (I.hok.nothing hn)
end
def CXv (P:Program) (w:World):CXT:=λouter H s E e s'=>∃ (ex T:Addr) (cls:Value) (H':Hp),e=.ref ex/\s'.os=s.os/\AllBare s'.gens/\Un (frs outer) [] H H' s.heap s'.heap/\HOk P w H' s'.heap/\Trc s'.heap ex T cls .none /\
 s.heap.get? ex=none/\s.heap.get? T=none/\H' ex=none/\H' T=none/\E cls none H'
structure Raisy (X:Cx) (E:XK):Prop where
 ex:X.ex=[]
 stk:X.stack=X.env :: X.outer
 frm:X.env.frame=some X.env.locals
 xe:X.xe=λe s'=>wpAny (model X.prog X.w) X.A («leaving» X.env e) (λ_ s''=>CXv X.prog X.w X.outer X.H₀ X.s₀ E e s'') (λe' s''=>CXv X.prog X.w X.outer X.H₀ X.s₀ E e' s'') s'
section
variable {X:Cx}{pins:List (Addr × Obj)}{σ:St}{H H':Hp}{s:Shared}{E:XK}
theorem Inv.out (hx:X.ex=[]) (I:Inv X pins σ H s) {e T:Addr}{cls:Value}(t:Trc s.heap e T cls .none) (aE:Apt X pins H e) (aT:Apt X pins H T) (q:E cls none H):CXv X.prog X.w X.outer X.H₀ X.s₀ E (.ref e) s:=by
 refine⟨e,T,cls,H,rfl,I.os,I.bare,?_,I.hok,t,aE.1,aT.1,aE.2.1,aT.2.1,q⟩;have u:=I.base;rw[hx]at u;exact u
theorem wE (R:Raisy X E) (I:Inv X pins σ H s) {e:Addr}{cls:Value}{args:List Value}{h2:Heap}(M:Heap.MadeExcOf s.heap h2 e cls args) (q:E cls none H):X.xe (.ref e) { s with heap:=h2 }:=by
 rw[R.xe];have aE:Apt X pins H e:=I.apt R.ex M.new (I.hok.nothing M.new);have I2:Inv X pins σ H { s with heap:=h2 }:=I.kept (t':=s.toks) M.keeps;obtain⟨t,he,_,_⟩:=M.there;have hA:X.A.frames=some (X.env :: X.outer):=by rw[<-R.stk];exact I.ok.frames
 have FF:=ji (e:=e) (T:=e) I2.stack;rw[R.stk]at FF;refine wpAny_leaving_firstW (base:=hid X h2 e e) (a0:=.ref t) hA FF R.frm he kN CA rfl rfl rfl λh' hL=>?_
 obtain⟨k1,k2,k3,k4⟩:=hL;rw[<-R.stk]at k2;obtain⟨I3,T',t3,aT⟩:=I2.flown R.ex aE aE k1 k2 k3 k4;exact I3.out R.ex t3 aE aT q
theorem Raisy.passes (R:Raisy X E):jB (CXv X.prog X.w) X E:=by
 intro pins σ H s e s' I h;obtain⟨ex,T,cls,H',rfl,os,bare,un,hok,t,n1,n2,n3,n4,q⟩:=h;have I2:Inv X pins σ H' s':=I.call' (ch:=[]) os un hok bare (λb z=>absurd z (by simp));have aE:Apt X pins H' ex:=I.apt R.ex n1 n3;have aT:Apt X pins H' T:=I.apt R.ex n2 n4;rw[R.xe];have hA:X.A.frames=some (X.env :: X.outer):=by rw[<-R.stk];exact I.ok.frames
 have FF:=ji (e:=ex) (T:=T) I2.stack;rw[R.stk]at FF;obtain⟨a0,tw⟩:=t.on (CD (X:=X) (h:=s'.heap) (e:=ex) (T:=T));refine wpAny_leaving_nextW (base:=hid X s'.heap ex T) (a0:=a0) hA FF R.frm tw kN CA λh' hL=>?_
 obtain⟨k1,k2,k3,k4⟩:=hL;rw[<-R.stk]at k2;obtain⟨I3,T',t3,aT'⟩:=I2.flown R.ex aE aT k1 k2 k3 k4;exact I3.out R.ex t3 aE aT' q
end
def veB:List Value:=[.type "ValueError",.type "Exception",.type "BaseException",.type "object"]
theorem DS {K:PySem.W.Frag}{h:Heap}{C:Addr}(X:K.In h) (q:excIn K C veB "ValueError.__new__"=true) :
 ∃ bm N nm qn bs hd sn sub ab col dd k0 k1 k2 k3 k5 mN,h.get? C=some (excClassObj nm qn C N bs bm hd sn sub ab col dd k0 k1 k2 k3 k5 "ValueError.__new__")/\h.Ns N mN/\mN "__init__"=none/\OwnTail h veB bm:=by
 unfold excIn at q;split at q
 . rename_i dd cd sl ho;split at q
   . rename_i C' bm k0 k1 k2 k3 n k5 hm hs;obtain⟨nm,bs,mro,ns,qn,hd,sn,sub,ab,col,del⟩:=cd;simp only[and_eq_true,beq_iff_eq,not_eq_true']at q hm;have q1:=q.1.1.1.1.1;have q2:=q.1.1.1.1.2;have q3:=q.1.1.1.2;have es:sl=#[k0,k1,k2,k3,some (.builtin n),k5]:=Array.ext' hs;rw[hm,q3,es,q1,q2]at ho;have hok:=q.1.2;refine⟨bm,ns,nm,qn,bs,hd,sn,sub,ab,col,dd,k0,k1,k2,k3,k5,h.nsMap ns,X _ _ ho,?_,nsMap_none_of_in X hok q.2,tail_of_in X q.1.1.2⟩;exact Heap.Ns.of_isNs (isNs_of_in X hok)
   . cases q
 . cases q
def Ex (E:XK) (C:Addr) (t:TA):TS:=λ_ σ H=>t σ H λvs H1=>vs.length <= sizeLine/\E (.ref C) none H1
theorem iB {X:Cx}{E:XK}{x:Str}{C:Addr}{e:Expr}{es:List Expr}{t:TA}{np cpos pos:Pos}(R:Raisy X E) (hh:X.A.handled=none) (hg:Gl X x) (hm:X.mg x=some (.ref C)) (hc:excIn X.K C veB "ValueError.__new__"=true)
 (ha:PA X (e :: es) t) (hdb:(x == ("__debug__":Str))=false:=by decide) (he:starEach (e :: es) X.env=(false,eval e X.env) :: starEach es X.env:=by rfl) (hpl:(backTo cpos (starEach (e :: es) X.env)).any (·.1)=false:=by rfl) :
 PS X (.Raise (some (.Call (.Name x np) (e :: es) [] cpos)) none pos) (Ex E C t):=by
 intro pins s σ H D I h;obtain⟨bm,N,nm,qn,bs,hd,sn,sub,ab,col,dd,k0,k1,k2,k3,k5,mN,hC,hN,hni,TL⟩:=DS I.ok.mod.kin hc;refine wpAny_Raise_call_subT (C:=C) (nm:=nm) (q:=qn) (N:=N) (bs:=bs) (bm:=bm) (hdct:=hd) (sn:=sn) (sub:=sub) (ab:=ab) (col:=col) (dd:=dd) (k0:=k0) (k1:=k1) (k2:=k2) (k3:=k3) (k5:=k5) PySem.F.excBase_ValueError (mN:=mN)
  (TL.hasType PySem.F.excBase_ValueError.hasBase) hh hpl hni (ik I hg hm ⟨rfl,?_⟩ hdb)
 have hq:=ha cpos pins s σ H _ I h;have e2:backTo cpos (starEach (e :: es) X.env)=backTo cpos ((false,eval e X.env) :: starEach es X.env):=by rw[he]
 rw[e2]at hq |-;refine Calls.evalArgs_plain (thn hq λus s2 ⟨vs,H2,I2,r,z,q⟩=>?_);exact⟨rfl,by rw[<-r.length];exact z,I2.bk _ _ hC,hN.keeps I2.bk,TL.keeps I2.bk,λh' ex M=>wE R I2 M q⟩
theorem Fun.okX {P:Program}{w:World}{K:PySem.W.Frag}{mg:Str->Option Value}{base:Heap}{x qual:Str}{st:Stmt}{f:Addr}{fd:FuncData}{N ps:List Str}{k:Nat}{sp:Sp}(F:Fun K x qual st f fd) (S:FnScope N ps (ah st)) (len:∀ vs H Q E,sp vs H Q E->vs.length=ps.length)
 (hbody:∀ (cdv:Value) (A:Around) (outer:List Env) (s:Shared) (H:Hp) (vs:List V) (Q:VK) (E:XK),Room k (A.deeper (envOfC qual (ah st) s.heap.objs.size f cdv))->Raisy (C2 (CXv P w) P w K mg base N qual (ah st) f cdv A outer s H E) E->sp vs H Q E ->
  ∃ t,PSs (C2 (CXv P w) P w K mg base N qual (ah st) f cdv A outer s H E) (eI st) t/\t { nx:=λ_ H'=>Q .non H',rt:=Q } (rN N vs) H):FnOk P w K mg base (CXv P w) (k+1) f fd ps sp:=by
 obtain⟨oc,od,kV,doc,pm,an,cdv,ct,osl,rfl,lk,hcd⟩:=F.ex;exact Eu lk hcd S len λA outer s H vs Q E hr hsp=>hbody cdv A outer s H vs Q E hr ⟨rfl,rfl,rfl,rfl⟩ hsp
abbrev Cx.tryX (X:Cx) (pins:List (Addr × Obj)) (R:St->Value->Hp->Prop):Cx :=
 { X with pn:=X.pn++pins,xe:=λe s'=>∃ (ex T:Addr) (cls:Value) (σ':St) (H':Hp),e=.ref ex/\Inv X pins σ' H' s'/\Trc s'.heap ex T cls .none/\Apt X pins H' ex/\Apt X pins H' T/\R σ' cls H' }
abbrev Cx.inH (X:Cx) (e:Value):Cx:={ X with A:=X.A.mark (some e),calm:=false,xe:=λ_ _=>False }
section
variable {X:Cx}{pins pins':List (Addr × Obj)}{σ:St}{H H':Hp}{s:Shared}{R:St->Value->Hp->Prop}{e:Value}
theorem Cx.Ok.try_ (ok:X.Ok):(X.tryX pins R).Ok:=⟨ok.mod,ok.kind,ok.glob,ok.blt,ok.above,ok.inj,ok.has,ok.cab,ok.hd,ok.frames,ok.stk,ok.exf,ok.bs,ok.bsz,ok.noex,ok.exfs,ok.funs,ok.frf⟩
theorem Cx.Ok.untry (ok:(X.tryX pins R).Ok):X.Ok:=⟨ok.mod,ok.kind,ok.glob,ok.blt,ok.above,ok.inj,ok.has,ok.cab,ok.hd,ok.frames,ok.stk,ok.exf,ok.bs,ok.bsz,ok.noex,ok.exfs,ok.funs,ok.frf⟩
theorem Inv.try_ (I:Inv X pins σ H s):Inv (X.tryX pins R) [] σ H s:=⟨I.ok.try_,I.os,I.bare,I.base,I.loc,I.cell,I.free,I.freeC,λp hp=>I.pin p (by simpa [Cx.tryX] using hp),I.hok,I.len⟩
theorem Inv.untry (I:Inv (X.tryX pins R) pins' σ H s):Inv X pins σ H s:=⟨I.ok.untry,I.os,I.bare,I.base,I.loc,I.cell,I.free,I.freeC,λp hp=>I.pin p (List.mem_append_left _ hp),I.hok,I.len⟩
theorem Cx.Ok.inH (ok:X.Ok):(X.inH e).Ok:=⟨ok.mod,ok.kind,ok.glob,ok.blt,ok.above,ok.inj,ok.has,ok.cab,λz=>(by cases z),ok.frames,ok.stk,ok.exf,ok.bs,ok.bsz,ok.noex,ok.exfs,ok.funs,ok.frf⟩
theorem Inv.inH (I:Inv X pins σ H s):Inv (X.inH e) pins σ H s:=⟨I.ok.inH,I.os,I.bare,I.base,I.loc,I.cell,I.free,I.freeC,I.pin,I.hok,I.len⟩
theorem Inv.outH (ok:X.Ok) (I:Inv (X.inH e) pins σ H s):Inv X pins σ H s:=⟨ok,I.os,I.bare,I.base,I.loc,I.cell,I.free,I.freeC,I.pin,I.hok,I.len⟩
theorem SP.outH {D:Ends}{f:Flow}{s':Shared}(ok:X.Ok) (h:SP (X.inH e) pins D f s'):SP X pins D f s':=by
 cases f with
|next=>obtain⟨σ',H',I,q⟩:=h;exact⟨σ',H',I.outH ok,q⟩
|brk=>obtain⟨σ',H',I,q⟩:=h;exact⟨σ',H',I.outH ok,q⟩
|cont=>obtain⟨σ',H',I,q⟩:=h;exact⟨σ',H',I.outH ok,q⟩
|ret u=>obtain⟨v,σ',H',I,r,q⟩:=h;exact⟨v,σ',H',I.outH ok,r,q⟩
theorem SP.untry {D:Ends}{f:Flow}{s':Shared}(h:SP (X.tryX pins R) pins' D f s'):SP X pins D f s':=by
 cases f with
|next=>obtain⟨σ',H',I,q⟩:=h;exact⟨σ',H',I.untry,q⟩
|brk=>obtain⟨σ',H',I,q⟩:=h;exact⟨σ',H',I.untry,q⟩
|cont=>obtain⟨σ',H',I,q⟩:=h;exact⟨σ',H',I.untry,q⟩
|ret u=>obtain⟨v,σ',H',I,r,q⟩:=h;exact⟨v,σ',H',I.untry,r,q⟩
end
structure Framed (X:Cx):Prop where
 ex:X.ex=[]
 stk:X.stack=X.env :: X.outer
 frm:X.env.frame=some X.env.locals
abbrev TH:=Ends->St->Value->Hp->Prop
def PH (X:Cx) (hs:List ExceptHandler) (t:TH):Prop :=
 ∀ (pins:List (Addr × Obj)) (s:Shared) (σ:St) (H:Hp) (D:Ends) (ex T:Addr) (cls:Value),Inv X pins σ H s->Trc s.heap ex T cls .none->Apt X pins H ex->Apt X pins H T->t D σ cls H ->
  wpAny (model X.prog X.w) X.A (handleBy (.ref ex) X.env hs) (SP X pins D) X.xe s
def Gb:TH:=λ_ _ _ _=>False
theorem ET {X:Cx}:PH X [] Gb:=λ_ _ _ _ _ _ _ _ _ _ _ _ h=>h.elim
def EW (K:PySem.W.Frag) (C:Value) (tb:TS) (tr:TH):TH:=λD σ cls H=>∃ b,exmOne K cls C=some b/\if b=true then tb D σ H else tr D σ cls H
section
variable {X:Cx}
theorem Trc.ty {M:Model}{h:Heap}{e T:Addr}{cls fl:Value}(t:Trc h e T cls fl):Looks M h (typeOf (.ref e)) cls:=by
 obtain⟨oe,vs,oT,ts,a0,h1,⟨rfl,_⟩,_⟩:=t;exact(Looks.ld h1).andThen .now
theorem Hk {pins:List (Addr × Obj)}{σ:St}{H:Hp}{s:Shared}{ex T:Addr}{cls fl:Value}{A:Around}{Q:Unit->Shared->Prop}{E:Value->Shared->Prop}(hx:X.ex=[]) (I:Inv X pins σ H s) (t:Trc s.heap ex T cls fl) (aE:Apt X pins H ex) (aT:Apt X pins H T)
 (h:∀ s' T',Inv X pins σ H s'->Trc s'.heap ex T' cls .none->Apt X pins H T'->Q () s'):wpAny (model X.prog X.w) A (setFlight (.ref ex) none) Q E s:=by
 obtain⟨a0,tw⟩:=t.on (CD (X:=X) (h:=s.heap) (e:=ex) (T:=T));refine wpAny_setFlight_noneW (base:=hid X s.heap ex T) (l:=X.stack) kN (ji I.stack) tw λh' k1 k2 k3 k4=>?_
 obtain⟨I3,T',t3,aT'⟩:=I.flown hx aE aT k1 k2 k3.at λb o q n=>⟨o.slots,k4 b o q n⟩
 exact h _ T' I3 t3 aT'
theorem r9 {x:Str}{C:Addr}{b₀:Stmt}{suite:List Stmt}{np pos:Pos}{rest:List ExceptHandler}{tb:TS}{tr:TH}(F:Framed X) (hg:Gl X x) (hm:X.mg x=some (.ref C)) (hb:∀ e,PSs (X.inH e) (b₀ :: suite) tb) (hr:PH X rest tr)
 (hdb:(x == ("__debug__":Str))=false:=by decide):PH X (.ExceptHandler (some (.Name x np)) none (b₀ :: suite) pos :: rest) (EW X.K (.ref C) tb tr):=by
 intro pins s σ H D ex T cls I t aE aT h;obtain⟨b,hx,h⟩:=h;refine wpAny_handleBy_cons (codeAny_handlers_test (ik (X:=X.inH (.ref ex)) I.inH hg hm ?_ hdb)) (by intro q;cases q);refine(exm_one (M:=model X.prog X.w) I.kIn t.ty hx).at ?_;cases b with
|false=>exact hr pins s σ H D ex T cls I t aE aT h
|true =>
  refine codeAny_handlers_suite (Hk F.ex I t aE aT λs' T' I' t' aT'=>?_);exact wpAny_mono (hb (.ref ex) pins s' σ H D I'.inH h) (λf s2 q=>q.outH I.ok) λ_ _ z=>False.elim z
def Hy (tb:(St->Value->Hp->Prop)->TS) (th:TH):TS:=λD σ H=>∃ R:St->Value->Hp->Prop,tb R D σ H/\∀ σ' cls H',R σ' cls H'->th D σ' cls H'
theorem Es {body:List Stmt}{h₀:ExceptHandler}{hs:List ExceptHandler}{pos:Pos}{tb:(St->Value->Hp->Prop)->TS}{th:TH}(F:Framed X) (hb:∀ pins R,PSs (X.tryX pins R) body (tb R)) (hh:PH X (h₀ :: hs) th):PS X (.Try body (h₀ :: hs) [] [] pos) (Hy tb th):=by
 intro pins s σ H D I h;obtain⟨R,h,k⟩:=h;refine wpAny_Try_except (wpAny_mono (hb pins R [] s σ H D I.try_ h) (λf s1 q=>?_) λe s1 q=>?_)
 . have q':=q.untry;cases f with
  |next=>exact wpAny_execs_nil q'
  |brk=>exact q'
  |cont=>exact q'
  |ret u=>exact q'
 . obtain⟨ex,T,cls,σ',H',rfl,I1,t,aE,aT,r⟩:=q;have hA:X.A.frames=some (X.env :: X.outer):=by rw[<-F.stk];exact I.ok.frames
   have FF:=ji (e:=ex) (T:=T) I1.stack;rw[F.stk]at FF;obtain⟨a0,tw⟩:=t.on (CD (X:=X) (h:=s1.heap) (e:=ex) (T:=T));refine wpAny_noteFrame_onW (base:=hid X s1.heap ex T) (a0:=a0) hA FF F.frm tw kN CA λh' hL=>?_
   obtain⟨k1,k2,k3,k4⟩:=hL;rw[<-F.stk]at k2;obtain⟨I2,T2,t2,aT2⟩:=I1.flown F.ex aE aT k1 k2 k3 k4;exact Hk F.ex I2 t2 aE aT2 λs3 T3 I3 t3 aT3=>hh pins s3 σ' H' D ex T3 cls I3 t3 aE aT3 (k σ' cls H' r)
end
def Fo (C:Addr) (m:Str) (sp:Sp) (dvs:List V) (R:St->Value->Hp->Prop) (ta:TE) (t:TA):TE:=λσ H Q=>ta σ H λx H1=>∃ a dx fs,x=.ref a/\H1 a=some (.ins C dx fs)/\fs.lookup m=none /\
 t σ H1 λvs H2=>sp (x :: (vs++dvs)) H2 Q λcls _ H'=>R σ cls H'
section
variable {X:Cx}{k:Nat}{f C:Addr}{fd:FuncData}{ps:List Str}{sp:Sp}{dvs:List V}{ds:List Value}{x m:Str}{p pos apos:Pos}{e o:Expr}{es:List Expr}{ta:TE}{t:TA}{pins:List (Addr × Obj)}{R:St->Value->Hp->Prop}
theorem Ea {pins':List (Addr × Obj)}{σ:St}{H:Hp}{s:Shared}{Q:VK}{us:List Value}{vs:List V}(hx:X.ex=[]) (F:FnOk X.prog X.w X.K X.mg X.base (CXv X.prog X.w) k f fd ps sp) (hr:Room k X.A) (hb:aC X.K fd ps ds) (hd:bC dvs ds)
 (I:Inv (X.tryX pins R) pins' σ H s) (r:bC vs us) (h:sp (vs++dvs) H Q λcls _ H'=>R σ cls H'):wpAny (model X.prog X.w) X.A (call (.ref f) us) (EP (X.tryX pins R) pins' σ Q) (X.tryX pins R).xe s:=by
 have r2:bC (vs++dvs) (us++ds):=r.append hd;have hl:(us++ds).length=ps.length:=r2.length.symm.trans (F.len _ _ _ _ h);refine wpAny_call (codeAny_mono (F.run X.A X.stack s H ⟨us,[]⟩ _ _ Q _ hr I.env0 (hb s us I.kIn hl) r2 h) λr s' hq=>?_);cases r with
|error e =>
  obtain⟨ex,T,cls,H',rfl,os,bare,un,hok,t,n1,n2,n3,n4,q⟩:=hq;exact⟨ex,T,cls,σ,H',rfl,(I.call' (ch:=[]) os un hok bare (λb z=>absurd z (by simp))).untry,t,I.untry.apt hx n1 n3,I.untry.apt hx n2 n4,q⟩
|ok fl =>
  cases fl with
 |ret u=>exact I.after hq
 |next=>exact False.elim hq
 |brk=>exact False.elim hq
 |cont=>exact False.elim hq
theorem Ai {pl:Sem Bool}(hx:X.ex=[]) (he:PE (X.tryX pins R) o ta) (c:Cls X.K C) (hm:Meth X.K C m f) (F:FnOk X.prog X.w X.K X.mg X.base (CXv X.prog X.w) k f fd ps sp) (hr:Room k X.A) (hb:aC X.K fd ps ds) (hd:bC dvs ds) (ha:PA (X.tryX pins R) (e :: es) t)
 (hst:starEach (e :: es) X.env=(false,eval e X.env) :: starEach es X.env:=by rfl) (hpl:(backTo pos (starEach es X.env)).any (·.1)=false:=by rfl)
 (ht:eval (.Call (.Attribute o m apos) (e :: es) [] pos) X.env=(do
  let ov <-eval o X.env
  standAt apos.atName
  let (f,first) <-holding [ov] (getMethod ov m pl)
  callWith pos f first (backTo pos (starEach (e :: es) X.env)) (backToKw pos (keywordEach [] X.env))):=by rfl) :
 PE (X.tryX pins R) (.Call (.Attribute o m apos) (e :: es) [] pos) (Fo C m sp dvs R ta t):=by
 intro pins' s σ H Q I h;refine methodCall_KW (pl:=pl) (thn (he pins' s σ H _ I h) λu s1 z=>?_) ht;obtain⟨x,H1,I1,rx,a,dx,fs,ex,ea,l,q⟩:=z;subst ex;cases (show u=Value.ref a from rx);refine lS I1 ea c hm l (callWith_K (first:=[.ref a]) (h₀:=X.base) I.ok.mod.kin hm.kp (thn (ha pos pins' s1 σ H1 _ I1 q) λus s2 z=>?_) hst hpl);obtain⟨vs,H2,I2,r,q2⟩:=z;exact⟨I2.kIn,Ea (us:=.ref a :: us) (vs:=.ref a :: vs) hx F hr hb hd I2 (.cons rfl r) q2⟩
end
end L2
namespace PySem.W
open PySem PySem.Calls PyProof.Rows Builtin Builtin.ObjectAttr Builtin.Getset_descriptor
section
variable {prog:Program}{w:World}{A:Around}{E:Value->Shared->Prop}{h:Heap}{g:Array GenState}{d:Drawn}{t:Nat}{os:OsState}{K:Frag}{x C:Addr}{ox:Obj}
end
end PySem.W
namespace L2
open PySem PySem.Spec PyProof.Rows
section
variable {X:Cx}{pins:List (Addr × Obj)}{σ:St}{H:Hp}{s:Shared}
theorem Inv.seen {x:Addr}{o:HO}(I:Inv X pins σ H s) (a:Apt X pins H x) (new:cT X.prog X.w (upd H x o) s.heap x o):Inv X pins σ (upd H x o) s:=by
 obtain⟨a1,a2,a3,a4,a5⟩:=a;have ne:∀ b u,H b=some u->b≠x:=λb u e z=>by rw[z,a2]at e;cases e
 refine⟨I.ok,I.os,I.bare,⟨I.base.keep,I.base.slot,λb u e n hx=>?_,I.base.there,λb xs e=>?_,λb u v e=>?_,λb ps e=>?_⟩,I.loc,I.cell,?_,λy c e=>?_,λp hp=>?_,λb u e=>?_,I.len⟩
 . rw[aa (λz=>by rw[z,a1]at e;cases e)];exact I.base.free b u e n hx
 . have q:=I.base.tups b xs e;rw[aa (ne _ _ q)];exact q
 . have q:=I.base.frzs b u v e;rw[aa (ne _ _ q)];exact q
 . obtain⟨more,q⟩:=I.base.tbls b ps e;exact⟨more,by rw[aa (ne _ _ q)];exact q⟩
 . rw[aa (Ne.symm a3)];exact I.free
 . rw[aa (a4 y c e)];exact I.freeC y c e
 . obtain⟨e,n,r⟩:=I.pin p hp;exact⟨e,by rw[aa (a5 p hp)];exact n,r⟩
 . by_cases hb:b=x
   . subst hb;rw[a6]at e;cases e;exact new
   . rw[aa hb]at e;refine(I.hok b u e).stay (λ_ _ _ q=>q) (λc q=>?_) λc xs q=>?_
     . rw[aa (ne _ _ q)];exact q
     . rw[aa (ne _ _ q)];exact q
end
end L2
namespace PySem
open Sem (wp)
def SqI (b:Bool) (h:Heap) (i l:Addr) (k:Nat):Prop:=match b with
|false=>h.IsListIter i l k
|true=>h.IsTupleIter i l k
def SqA (b:Bool) (h:Heap) (l:Addr) (xs:Array Value):Prop:=match b with
|false=>h.IsList l xs
|true=>h.IsTuple l xs
theorem SqI.at {b:Bool}{h h':Heap}{i l:Addr}{k:Nat}(x:SqI b h i l k) (e:∀ o,h.get? i=some o->h'.get? i=some o):SqI b h' i l k:=by
 cases b<;>(obtain⟨o,h1,r⟩:=x;exact⟨o,e o h1,r⟩)
theorem SqA.at {b:Bool}{h h':Heap}{l:Addr}{xs:Array Value}(x:SqA b h l xs) (e:∀ o,h.get? l=some o->h'.get? l=some o):SqA b h' l xs:=by
 cases b<;>(obtain⟨o,h1,r⟩:=x;exact⟨o,e o h1,r⟩)
theorem SqI.obj {b:Bool}{h:Heap}{i l:Addr}{k:Nat}(x:SqI b h i l k):∃ o,h.get? i=some o/\∀ v,o.data≠.cell v:=by
 cases b<;>(obtain⟨o,h1,_,h3⟩:=x;exact⟨o,h1,λv z=>by rw[h3]at z;cases z⟩)
theorem SqA.lt {b:Bool}{h:Heap}{l:Addr}{xs:Array Value}(x:SqA b h l xs):l < h.objs.size:=by
 cases b<;>(obtain⟨o,h1,_⟩:=x;exact Heap.lt_size h1)
section
variable {prog:Program}{w:World}{A:Around}{E:Value->Shared->Prop}{s:Shared}
theorem xZ {b:Bool}{it l:Addr}{i:Nat}{items:Array Value}{x:Value}{Q:Value->Shared->Prop}(hit:SqI b s.heap it l i) (hl:SqA b s.heap l items) (hx:items[i]?=some x)
 (hQ:∀ h',SqI b h' it l (i+1)->Heap.SameBut it s.heap h'->Q x { s with heap:=h' }):wpAny (model prog w) A (Builtin.SmallTypes.nextOf (.ref it)) Q E s:=by
 cases b with
|false=>exact wpAny_nextOf_list_item hit hl hx hQ
|true =>
  have hty:s.TypeIs (.ref it) "tuple_iterator":=Heap.IsTupleIter.typeIs hit;obtain⟨o,ho,hc,hd⟩:=id hit;obtain⟨ol,hol,_,nl,hdl⟩:=hl;unfold Builtin.SmallTypes.nextOf;refine wpAny_bind (wpAny_callSpecial?_slot (name:=Str.ofString "__next__") hty F.slot_tuple_iterator_next (wpAny_call_entry F.slot_tuple_iterator_next hty F.entry_tuple_iterator_next ?_ (F.args_tuple_iterator_next_1 _)));show wpAny _ _ (field (.ref it) 0 >>= _) _ _ s;refine wpAny_bind (wpAny_field ho hd (x:=.ref l) rfl ?_);show wpAny _ _ (if (Value.ref l == Value.none)=true then _ else _) _ _ s;rw[if_neg (show ¬ ((Value.ref l == Value.none)=true) from Bool.false_ne_true)];show wpAny _ _ (field (.ref it) 1 >>= _) _ _ s;refine wpAny_bind (wpAny_field ho hd (x:=.int i 0) rfl ?_);show wpAny _ _ (seqItems? (.ref l) >>= _) _ _ s;refine wpAny_bind (wpAny_seqItems hol hdl ?_);simp only[toNat_natCast,hx];refine wpAny_bind (wpAny_setField ho hd (by simp) (wpAny_pure ⟨x,rfl,wpAny_pure (hQ _ ?_ (Heap.SameBut.update ..))⟩));exact⟨_,Heap.get?_update_self _ ho (Obj.isFreed_of_fields (Obj.data_mapFields hd _)),(Obj.cls_mapFields ..).trans hc,by rw[Obj.data_mapFields hd];simp[rawInt]⟩
theorem uY {b:Bool}{it l:Addr}{i:Nat}{items:Array Value}{Q:Value->Shared->Prop}(hh:A.handled=none) (hit:SqI b s.heap it l i) (hl:SqA b s.heap l items) (hx:items[i]?=none)
 (hE:∀ h' e,Heap.ExtBut it s.heap h'->(∃ o,h'.get? e=some o/\o.cls=.type "StopIteration")->E (.ref e) { s with heap:=h' }):wpAny (model prog w) A (Builtin.SmallTypes.nextOf (.ref it)) Q E s:=by
 cases b with
|false=>exact wpAny_nextOf_list_end hh hit hl hx hE
|true =>
  have hty:s.TypeIs (.ref it) "tuple_iterator":=Heap.IsTupleIter.typeIs hit;obtain⟨o,ho,hc,hd⟩:=id hit;obtain⟨ol,hol,_,nl,hdl⟩:=hl;unfold Builtin.SmallTypes.nextOf;refine wpAny_bind (wpAny_callSpecial?_slot (name:=Str.ofString "__next__") hty F.slot_tuple_iterator_next (wpAny_call_entry F.slot_tuple_iterator_next hty F.entry_tuple_iterator_next ?_ (F.args_tuple_iterator_next_1 _)));show wpAny _ _ (field (.ref it) 0 >>= _) _ _ s;refine wpAny_bind (wpAny_field ho hd (x:=.ref l) rfl ?_);show wpAny _ _ (if (Value.ref l == Value.none)=true then _ else _) _ _ s;rw[if_neg (show ¬ ((Value.ref l == Value.none)=true) from Bool.false_ne_true)];show wpAny _ _ (field (.ref it) 1 >>= _) _ _ s;refine wpAny_bind (wpAny_field ho hd (x:=.int i 0) rfl ?_);show wpAny _ _ (seqItems? (.ref l) >>= _) _ _ s;refine wpAny_bind (wpAny_seqItems hol hdl ?_);simp only[toNat_natCast,hx];refine wpAny_bind (wpAny_rule (wpAny_bind (wpAny_setField ho hd (by simp) ?_)));show wpAny _ _ (newExc (.type "StopIteration") [] >>= _) _ _ _;refine wpAny_bind ?_;simp only[newExc,newTuple];refine wpAny_bind (wpAny_newObj_type ?_ (by size_fits));refine wpAny_bind (m:=firstArgMember _ _) (wpAny_of_eq (a:=Value.none) (by first|rfl|(simp only[firstArgMember];rfl)) ?_);refine wpAny_newObj_type ?_ (by size_fits);simp only[raiseNew];refine wpAny_bind (wpAny_handled ?_)
  first|rw[show A.in1.handled=none from hh]|rw[hh]
  refine wpAny_bind (wpAny_pure (wpAny_throw ?_));exact hE _ _ (((Heap.SameBut.update ..).extBut.push _).push _) ⟨_,Heap.get?_push_size _ rfl,rfl⟩
theorem uQ {b:Bool}{z TI TO i1 i2 l1 l2:Addr}{k1 k2:Nat}{xs ys:Array Value}{x y a c:Value}{Q:Option Value->Shared->Prop}(D:ZipApart z TI TO i1 i2 l1 l2)
 (hz:IsZip s.heap z TI TO .none) (hTI:IsPair s.heap TI (.ref i1) (.ref i2)) (hTO:IsPair s.heap TO a c)
 (h1:SqI b s.heap i1 l1 k1) (h2:SqI b s.heap i2 l2 k2) (hl1:SqA b s.heap l1 xs) (hl2:SqA b s.heap l2 ys) (hx:xs[k1]?=some x) (hy:ys[k2]?=some y)
 (hQ:∀ h',IsZip h' z TI TO (rawInt s.heap.objs.size)->IsPair h' TO x y->SqI b h' i1 l1 (k1+1)->SqI b h' i2 l2 (k2+1)->IsPair h' s.heap.objs.size x y ->
  (∀ c o,c≠z->c≠TO->c≠i1->c≠i2->s.heap.get? c=some o->h'.get? c=some o)->Q (some (.ref s.heap.objs.size)) { s with heap:=h' }):wpAny (model prog w) A (pyNext (.ref z)) Q E s:=by
 have hT:s.TypeIs (.ref z) "zip":=⟨_,hz,rfl⟩
 unfold pyNext;refine wpAny_bind (wpAny_attempt (wpAny_callSpecial?_slot (name:=Str.ofString "__next__") hT F.slot_zip_next (wpAny_call_entry F.slot_zip_next hT F.entry_zip_next ?_ (F.args_zip_next_1 _))));show wpAny _ _ (field (.ref z) 2 >>= _) _ _ _;refine wpAny_bind (wpAny_field hz rfl (x:=.bool false) rfl ?_);show wpAny _ _ (field (.ref z) 3 >>= _) _ _ _;refine wpAny_bind (wpAny_field hz rfl (x:=.ref TI) rfl (wpAny_bind (wpAny_seqItems hTI rfl ?_)));show wpAny _ _ (Builtin.SmallTypes.ownedTupleIsFree (.ref z) >>= _) _ _ _;refine wpAny_bind ?_;unfold Builtin.SmallTypes.ownedTupleIsFree;refine wpAny_bind (wpAny_field hz rfl (x:=.none) rfl (wpAny_pure ?_));simp only[if_true];refine wpAny_bind (wpAny_rule (wpAny_bind (wpAny_field hz rfl (x:=.ref TO) rfl (wpAny_bind (wpAny_setField_rec hz (by simp) λg1 z1 e1=>?_)))))
 replace z1:IsZip g1 z TI TO .ellipsis:=z1
 refine wpAny_bind ?_;simp only[List.zipIdx_cons,List.zipIdx_nil,forIn_cons,forIn_nil];refine wpAny_bind (wpAny_bind (wpAny_onRaise ?_));show wpAny _ _ (Builtin.SmallTypes.nextOf (.ref i1) >>= _) _ _ _;refine wpAny_bind (xZ (h1.at λo e=>e1.extBut _ _ D.i1z e) (hl1.at λo e=>e1.extBut _ _ D.l1z e) hx λg2 h1' e2=>wpAny_pure ?_);have t2:IsPair g2 TO a c:=e2.extBut _ _ D.TOi1 (e1.extBut _ _ D.TOz hTO);refine wpAny_bind (wpAny_seqItems t2 rfl (wpAny_bind (wpAny_updateSeq_pair t2 λg3 t3 e3=>?_)))
 replace t3:IsPair g3 TO x c:=t3
 refine wpAny_bind (wpAny_letGo (wpAny_pure ?_));refine wpAny_bind (wpAny_bind (wpAny_onRaise ?_));show wpAny _ _ (Builtin.SmallTypes.nextOf (.ref i2) >>= _) _ _ _;refine wpAny_bind (xZ (h2.at λo e=>e3.extBut _ _ D.TOi2.symm (e2.extBut _ _ D.i12.symm (e1.extBut _ _ D.i2z e))) (hl2.at λo e=>e3.extBut _ _ D.l2TO (e2.extBut _ _ D.l2i1 (e1.extBut _ _ D.l2z e))) hy λg4 h2' e4=>wpAny_pure ?_);have t4:IsPair g4 TO x c:=e4.extBut _ _ D.TOi2 t3;refine wpAny_bind (wpAny_seqItems t4 rfl (wpAny_bind (wpAny_updateSeq_pair t4 λg5 t5 e5=>?_)))
 replace t5:IsPair g5 TO x y:=t5
 refine wpAny_bind (wpAny_letGo (wpAny_pure (wpAny_pure ?_)));refine wpAny_bind (wpAny_seqItems t5 rfl (wpAny_bind (wpAny_newTuple ?_)));have hsz:g5.objs.size=s.heap.objs.size:=by rw[e5.1,e4.1,e3.1,e2.1,e1.1]
 have z5:IsZip g5 z TI TO .ellipsis:=e5.extBut _ _ D.TOz.symm (e4.extBut _ _ D.i2z.symm (e3.extBut _ _ D.TOz.symm (e2.extBut _ _ D.i1z.symm z1)));have k5:∀ c o,c≠z->c≠TO->c≠i1->c≠i2->s.heap.get? c=some o->g5.get? c=some o:=λc o c1 c2 c3 c4 e =>
  e5.extBut _ _ c2 (e4.extBut _ _ c4 (e3.extBut _ _ c2 (e2.extBut _ _ c3 (e1.extBut _ _ c1 e))))
 have w1:SqI b g5 i1 l1 (k1+1):=h1'.at λo e=>e5.extBut _ _ D.TOi1.symm (e4.extBut _ _ D.i12 (e3.extBut _ _ D.TOi1.symm e))
 have w2:SqI b g5 i2 l2 (k2+1):=h2'.at λo e=>e5.extBut _ _ D.TOi2.symm e
 have zlt:z < g5.objs.size:=Heap.lt_size z5;show wpAny _ _ (Builtin.SmallTypes.ownedTupleHandOut (.ref z) (.ref g5.objs.size) >>= _) _ _ _;refine wpAny_bind ?_;unfold Builtin.SmallTypes.ownedTupleHandOut;have z6:IsZip (g5.push { cls:=.type "tuple",data:=.seq #[x,y] }) z TI TO .ellipsis:=Heap.get?_push_of_some _ z5;refine wpAny_bind (wpAny_setField_rec z6 (by simp) λg7 z7 e7=>?_)
 replace z7:IsZip g7 z TI TO (rawInt g5.objs.size):=z7
 refine wpAny_setField_rec z7 (by simp) λg8 z8 e8=>?_
 replace z8:IsZip g8 z TI TO (rawInt g5.objs.size):=z8
 have up:∀ c o,c≠z->g5.get? c=some o->g8.get? c=some o:=λc o c1 e=>e8.extBut _ _ c1 (e7.extBut _ _ c1 (Heap.get?_push_of_some _ e))
 have t8:IsPair g8 g5.objs.size x y:=e8.extBut _ _ (ne_of_gt zlt) (e7.extBut _ _ (ne_of_gt zlt) (Heap.get?_push_size _ rfl));rw[hsz]at z8 t8;refine wpAny_pure ⟨_,rfl,wpAny_pure ?_⟩;show Q (some (.ref g5.objs.size)) _;rw[hsz];exact hQ g8 z8 (up _ _ D.TOz t5) (w1.at λo e=>up _ o D.i1z e) (w2.at λo e=>up _ o D.i2z e) t8 λc o c1 c2 c3 c4 e=>up c o c1 (k5 c o c1 c2 c3 c4 e)
theorem xy {b:Bool}{z TI TO i1 i2 l1 l2:Addr}{k1:Nat}{xs:Array Value}{Q:Option Value->Shared->Prop}(hh:A.handled=none) (D:ZipApart z TI TO i1 i2 l1 l2)
 (hz:IsZip s.heap z TI TO .none) (hTI:IsPair s.heap TI (.ref i1) (.ref i2)) (h1:SqI b s.heap i1 l1 k1) (hl1:SqA b s.heap l1 xs) (hx:xs[k1]?=none)
 (hQ:∀ h',(∀ c o,c≠z->c≠i1->s.heap.get? c=some o->h'.get? c=some o)->Q none { s with heap:=h' }):wpAny (model prog w) A (pyNext (.ref z)) Q E s:=by
 have hT:s.TypeIs (.ref z) "zip":=⟨_,hz,rfl⟩
 unfold pyNext;refine wpAny_bind (wpAny_attempt (wpAny_callSpecial?_slot (name:=Str.ofString "__next__") hT F.slot_zip_next (wpAny_call_entry F.slot_zip_next hT F.entry_zip_next ?_ (F.args_zip_next_1 _))));show wpAny _ _ (field (.ref z) 2 >>= _) _ _ _;refine wpAny_bind (wpAny_field hz rfl (x:=.bool false) rfl ?_);show wpAny _ _ (field (.ref z) 3 >>= _) _ _ _;refine wpAny_bind (wpAny_field hz rfl (x:=.ref TI) rfl (wpAny_bind (wpAny_seqItems hTI rfl ?_)));show wpAny _ _ (Builtin.SmallTypes.ownedTupleIsFree (.ref z) >>= _) _ _ _;refine wpAny_bind ?_;unfold Builtin.SmallTypes.ownedTupleIsFree;refine wpAny_bind (wpAny_field hz rfl (x:=.none) rfl (wpAny_pure ?_));simp only[if_true];refine wpAny_bind (wpAny_rule (wpAny_bind (wpAny_field hz rfl (x:=.ref TO) rfl (wpAny_bind (wpAny_setField_rec hz (by simp) λg1 z1 e1=>?_)))))
 replace z1:IsZip g1 z TI TO .ellipsis:=z1
 refine wpAny_bind ?_;simp only[List.zipIdx_cons,List.zipIdx_nil,forIn_cons,forIn_nil];refine wpAny_bind (wpAny_bind (wpAny_onRaise ?_));show wpAny _ _ (Builtin.SmallTypes.nextOf (.ref i1) >>= _) _ _ _;refine wpAny_bind (uY hh (h1.at λo e=>e1.extBut _ _ D.i1z e) (hl1.at λo e=>e1.extBut _ _ D.l1z e) hx λg2 e e2 he=>?_);obtain⟨oe,hoe,hce⟩:=he;have z2:IsZip g2 z TI TO .ellipsis:=e2 _ _ D.i1z.symm z1;have hez:e≠z:=λq=>by subst q;rw[z2]at hoe;cases hoe;simp at hce
 refine wpAny_setField_rec z2 (by simp) λg3 _ e3=>?_
 refine wpAny_bind (wpAny_isInstance (T:="StopIteration") (b:=true) ⟨oe,e3.extBut _ _ hez hoe,hce⟩ isSubtype_stop ?_);exact wpAny_pure (hQ g3 λc o c1 c2 q=>e3.extBut _ _ c1 (e2 _ _ c2 (e1.extBut _ _ c1 q)))
abbrev As (h:Heap) (l1:Addr):Heap:=h.push { cls:=.type "tuple_iterator",data:=.fields #[.ref l1,.int 0 0] }
abbrev B1 (h:Heap) (l1 l2:Addr):Heap:=(As h l1).push { cls:=.type "tuple_iterator",data:=.fields #[.ref l2,.int 0 0] }
abbrev B4 (h:Heap) (l1 l2:Addr):Heap:=(B1 h l1 l2).push { cls:=.type "tuple",data:=.seq #[.ref h.objs.size,.ref (As h l1).objs.size] }
abbrev Ab (h:Heap) (l1 l2:Addr):Heap:=(B4 h l1 l2).push { cls:=.type "tuple",data:=.seq #[.none,.none] }
abbrev xC (h:Heap) (l1 l2:Addr):Heap:=(Ab h l1 l2).push { cls:=.type "zip",data:=.fields #[.none,.bool false,.bool false,.ref (B1 h l1 l2).objs.size,.ref (B4 h l1 l2).objs.size] }
theorem wK (l1 l2:Addr) (xs ys:Array Value) :
 Meets (Builtin.«zip.__new__» ⟨[.type "zip",.ref l1,.ref l2],[]⟩) (λ_ R s=>s.heap.IsTuple l1 xs/\s.heap.IsTuple l2 ys/\R (.ok (.ret (.ref (Ab s.heap l1 l2).objs.size))) { s with heap:=xC s.heap l1 l2 }) :=
 .of_wp λprog w A R s h=>by
  obtain⟨hp,g,d,tk,os⟩:=s;obtain⟨hl1,hl2,h⟩:=h;have hsub:=sub_zip;have hL1:Heap.IsTuple (Shared.heap ⟨hp,g,d,tk,os⟩) l1 xs:=hl1;have hL2:Heap.IsTuple (Shared.heap ⟨hp.push { cls:=.type "tuple_iterator",data:=.fields #[.ref l1,.int 0 0] },g,d,tk,os⟩) l2 ys:=Heap.IsTuple.push hl2 _
  wp_walk using wpAny_pyIter_tuple hL1,wpAny_pyIter_tuple hL2
  exact⟨_,rfl,h⟩
theorem uR {b:Bool}{l1 l2:Addr}{xs ys:Array Value}{Q:Value->Shared->Prop}(hl1:SqA b s.heap l1 xs) (hl2:SqA b s.heap l2 ys)
 (h:∀ h',IsZip h' (s.heap.objs.size+4) (s.heap.objs.size+2) (s.heap.objs.size+3) .none->IsPair h' (s.heap.objs.size+2) (.ref s.heap.objs.size) (.ref (s.heap.objs.size+1)) ->
  IsPair h' (s.heap.objs.size+3) .none .none->SqI b h' s.heap.objs.size l1 0->SqI b h' (s.heap.objs.size+1) l2 0->(∀ c o,s.heap.get? c=some o->h'.get? c=some o)->Q (.ref (s.heap.objs.size+4)) { s with heap:=h' }) :
 wpAny (model prog w) A (call (.type "zip") [.ref l1,.ref l2]) Q E s:=by
 cases b with
|false=>exact call_zip_2 hl1 hl2 λh' a1 a2 a3 a4 a5 _ a7=>h h' a1 a2 a3 a4 a5 a7
|true =>
  refine callType_new F.called_zip (by decide) (F.typeCall_zip_2 _ _) (F.newCall_zip_2 _ _) (λobj=>F.args_object_init_3 obj _ _) F.entry_zip_new (wK l1 l2 xs ys) ⟨hl1,hl2,?_⟩;have z1:(As s.heap l1).objs.size=s.heap.objs.size+1:=Heap.size_push ..;have z2:(B1 s.heap l1 l2).objs.size=s.heap.objs.size+2:=by rw[Heap.size_push,z1]
  have z3:(B4 s.heap l1 l2).objs.size=s.heap.objs.size+3:=by rw[Heap.size_push,z2]
  have z4:(Ab s.heap l1 l2).objs.size=s.heap.objs.size+4:=by rw[Heap.size_push,z3]
  have g5:(xC s.heap l1 l2).get? (Ab s.heap l1 l2).objs.size=some _:=Heap.get?_push_size _ rfl;have g4:(xC s.heap l1 l2).get? (B4 s.heap l1 l2).objs.size=some _:=Heap.get?_push_of_some _ (Heap.get?_push_size _ rfl);have g3:(xC s.heap l1 l2).get? (B1 s.heap l1 l2).objs.size=some _:=Heap.get?_push_of_some _ (Heap.get?_push_of_some _ (Heap.get?_push_size _ rfl));have g2:(xC s.heap l1 l2).get? (As s.heap l1).objs.size=some _:=Heap.get?_push_of_some _ (Heap.get?_push_of_some _ (Heap.get?_push_of_some _ (Heap.get?_push_size _ rfl)));have g1:(xC s.heap l1 l2).get? s.heap.objs.size=some _:=Heap.get?_push_of_some _ (Heap.get?_push_of_some _ (Heap.get?_push_of_some _ (Heap.get?_push_of_some _ (Heap.get?_push_size _ rfl))));show _/\_;rw[z2,z3,z4]at g5;rw[z1,z2]at g3;rw[z3]at g4;rw[z1]at g2;rw[z4];exact⟨⟨_,g5,rfl⟩,h _ g5 g3 g4 ⟨_,g1,rfl,rfl⟩ ⟨_,g2,rfl,rfl⟩ λc o x=>Heap.get?_push_of_some _ (Heap.get?_push_of_some _ (Heap.get?_push_of_some _ (Heap.get?_push_of_some _ (Heap.get?_push_of_some _ x))))⟩
end
end PySem
namespace L2
open PySem PySem.Spec PyProof.Rows
def Sq (b:Bool) (K:PySem.W.Frag) (H:Hp) (a:Addr) (xs:List V):Prop:=match b with
|false=>SqL K H a xs
|true=>SqT K H a xs
section
variable {X:Cx}
theorem Inv.sq {pins:List (Addr × Obj)}{σ:St}{H:Hp}{s:Shared}{b:Bool}{a:Addr}{xs:List V}(I:Inv X pins σ H s) (h:Sq b X.K H a xs):∃ its:List Value,bC xs its/\SqA b s.heap a its.toArray:=by
 cases b with
|false=>obtain⟨its,r,p,_⟩:=I.list h;exact⟨its,r,p.isList⟩
|true=>obtain⟨its,r,p,_⟩:=I.tuple h;exact⟨its,r,p⟩
theorem Inv.sq_inj {pins:List (Addr × Obj)}{σ:St}{H:Hp}{s:Shared}{b:Bool}{a:Addr}{xs ys:List V}(I:Inv X pins σ H s) (h:Sq b X.K H a xs) (h':Sq b X.K H a ys):xs=ys:=by
 cases b
 . exact I.list_inj h h'
 . exact I.tuple_inj h h'
theorem Inv.turnedL {pins:List (Addr × Obj)}{σ:St}{H:Hp}{s:Shared}{h':Heap}{t':Nat}{ch:List Addr}(I:Inv X pins σ H s) (hf:∀ b∈ch,x8 X pins H b) (k:∀ b o,b ∉ ch->s.heap.get? b=some o->h'.get? b=some o):Inv X pins σ H { s with heap:=h',toks:=t' }:=by
 refine I.step (g':=s.gens) (d':=s.drawn) (ch:=ch) (λb hb=>?_) (λb o _ _ n e _=>k b o n e) (λb o _ _ n e _=>⟨o.slots,k b o n e⟩) (λ_ _ _ _ n=>n) (λb o n e=>⟨o,k b o n e⟩) (λ_ _ q=>q) (λ_ _ _ q=>q) (λ_ ps q=>⟨#[],by rw[Array.append_empty];exact q⟩) (λm hm=>?_) (λa o e=>?_) I.bare
 . obtain⟨_,f1,_,f3,f4,f5⟩:=hf b hb;exact⟨f3,f1,f4,f5⟩
 . obtain⟨o,es,ep,ho,r⟩:=hm;exact⟨o,es,ep,k _ o (λz=>(hf _ z).2.1 rfl) ho,r⟩
 . refine(I.hok a o e).stay (λb u hb q=>k b u (λz=>?_) q) (λ_ q=>q) λ_ _ q=>q
   have n:=(hf b z).1;rcases hb with rfl|hb
   . rw[n]at e;cases e
   . rw[n]at hb;cases hb
theorem Inv.aptSz {pins:List (Addr × Obj)}{σ:St}{H:Hp}{s:Shared}{b:Addr}(I:Inv X pins σ H s) (hb:s.heap.objs.size <= b) (hn:H b=none):Apt X pins H b:=by
 obtain⟨_,f1,_,_,f4,f5⟩:=I.fpOk hb hn;refine⟨?_,hn,f1,f4,f5⟩;cases q:X.s₀.heap.get? b with
|none=>rfl
|some o=>exact absurd (Nat.lt_of_lt_of_le (Heap.lt_size q) (Nat.le_trans I.sz hb)) (Nat.lt_irrefl _)
def Itz (b:Bool) (K:PySem.W.Frag) (a1 a2:Addr):It :=
 ⟨λi H=>∃ xs ys x y,Sq b K H a1 xs/\Sq b K H a2 ys/\xs[i]?=some x/\ys[i]?=some y,
  λi H v H'=>∃ T x y,H T=none/\v=.ref T/\H'=upd H T (.tup [x,y])/\(∀ xs,Sq b K H a1 xs->xs[i]?=some x)/\∀ ys,Sq b K H a2 ys->ys[i]?=some y,
  λi H=>∃ xs,Sq b K H a1 xs/\xs.length <= i⟩
theorem Bg {P:Program}{w:World}{K:PySem.W.Frag}{elts:List Expr}{kt:Nat}{pt:Pos}{b:Bool}{z TI TO i1 i2 a1 a2:Addr}(D:ZipApart z TI TO i1 i2 a1 a2) :
 Turn P w K (.Tuple elts kt pt) (Itz b K a1 a2) [z,TI,TO,i1,i2] z (λi h=>IsZip h z TI TO .none/\IsPair h TI (.ref i1) (.ref i2)/\(∃ a c,IsPair h TO a c)/\SqI b h i1 a1 i/\SqI b h i2 a2 i) where
 mem:=mem_cons_self
 obj:=λi h st c hc=>by
  obtain⟨s1,s2,⟨_,_,s3⟩,s4,s5⟩:=st;simp only[mem_cons,not_mem_nil,or_false]at hc;rcases hc with rfl|rfl|rfl|rfl|rfl
  . exact⟨_,s1,λv q=>by cases q⟩
  . exact⟨_,s2,λv q=>by cases q⟩
  . exact⟨_,s3,λv q=>by cases q⟩
  . exact s4.obj
  . exact s5.obj
 keep:=λi h h' st k=>by
  obtain⟨s1,s2,⟨u,v,s3⟩,s4,s5⟩:=st;exact⟨k z (by simp) _ s1,k TI (by simp) _ s2,⟨u,v,k TO (by simp) _ s3⟩,s4.at λo e=>k i1 (by simp) o e,s5.at λo e=>k i2 (by simp) o e⟩
 item:=by
  intro X hP hw hK hc i pins s σ H E I hf st hg;subst hP hw hK;obtain⟨s1,s2,⟨u,v,s3⟩,s4,s5⟩:=st;obtain⟨xs,ys,x,y,q1,q2,hx,hy⟩:=hg;obtain⟨us,r1,p1⟩:=I.sq q1;obtain⟨ws,r2,p2⟩:=I.sq q2;obtain⟨ux,hux,rx⟩:=r1.get hx;obtain⟨uy,huy,ry⟩:=r2.get hy;refine uQ D s1 s2 s3 s4 s5 p1 p2 (x:=ux) (y:=uy) (by simpa using hux) (by simpa using huy) λh' t1 t2 t3 t4 t5 kk=>?_
  have hfresh:H s.heap.objs.size=none:=I.hok.fresh (Nat.le_refl _);have lt:∀ {c o},s.heap.get? c=some o->c≠s.heap.objs.size:=λe=>ne_of_lt (Heap.lt_size e)
  refine⟨_,rfl,wpAny_letOwnedTupleGo_zip t1 λh'' u1 e2=>?_⟩;have ch:∀ c o,c ∉ [z,TO,i1,i2]->s.heap.get? c=some o->h''.get? c=some o:=λc o n e=>by
   have n1:c≠z:=λq=>n (by simp[q])
   exact e2.extBut _ _ n1 (kk c o n1 (λq=>n (by simp[q])) (λq=>n (by simp[q])) (λq=>n (by simp[q])) e)
  have sub:∀ c∈[z,TO,i1,i2],c∈[z,TI,TO,i1,i2]:=λc hc=>by
   simp only[mem_cons,not_mem_nil,or_false]at hc |-;rcases hc with h|h|h|h<;>simp[h]
  have I1:Inv X pins σ H { s with heap:=h'' }:=I.turnedL (t':=s.toks) (λb hb=>hf b (sub b hb)) ch;have T5:IsPair h'' s.heap.objs.size ux uy:=e2.extBut _ _ (lt s1).symm t5;have apt:=I.aptSz (Nat.le_refl s.heap.objs.size) hfresh;have I2:=I1.seen (o:=.tup [x,y]) apt ⟨by show 2 <= sizeLine;decide,[ux,uy],.cons rx (.cons ry .nil),⟨_,T5,rfl,_,rfl⟩⟩;refine⟨.ref s.heap.objs.size,_,I2,rfl,⟨_,x,y,hfresh,rfl,rfl,λzs hz=>by rw[I.sq_inj hz q1];exact hx,λzs hz=>by rw[I.sq_inj hz q2];exact hy⟩,⟨u1,e2.extBut _ _ D.TIz (kk _ _ D.TIz D.TITO D.TIi1 D.TIi2 s2),⟨_,_,e2.extBut _ _ D.TOz t2⟩,t3.at λo e=>e2.extBut _ _ D.i1z e,t4.at λo e=>e2.extBut _ _ D.i2z e⟩,λb hb=>?_⟩;obtain⟨o,ho,_⟩:∃ o,s.heap.get? b=some o/\True:=by
   simp only[mem_cons,not_mem_nil,or_false]at hb;rcases hb with rfl|rfl|rfl|rfl|rfl
   . exact⟨_,s1,trivial⟩
   . exact⟨_,s2,trivial⟩
   . exact⟨_,s3,trivial⟩
   . obtain⟨o,e,_⟩:=s4.obj;exact⟨o,e,trivial⟩
   . obtain⟨o,e,_⟩:=s5.obj;exact⟨o,e,trivial⟩
  rw[aa (lt ho)];exact(hf b hb).1
 done:=by
  intro X hP hw hK hc i pins s σ H E I hf st hg;subst hP hw hK;obtain⟨s1,s2,_,s4,s5⟩:=st;obtain⟨xs,q1,hx⟩:=hg;obtain⟨us,r1,p1⟩:=I.sq q1;have hl:=r1.length;exact xy (I.ok.hd hc) D s1 s2 s4 p1 (by simp;omega) λh' kk=>⟨rfl,I.turnedL (t':=s.toks) (ch:=[z,i1]) (λb hb=>hf b (by
   simp only[mem_cons,not_mem_nil,or_false]at hb |-;rcases hb with q|q<;>simp[q])) λb o n e=>kk b o (λq=>n (by simp[q])) (λq=>n (by simp[q])) e⟩
 self:=λA i s Q E st hQ=>wpAny_pyIter_zip st.1 hQ
def Gg (K:PySem.W.Frag) (ta:TA):TI:=λσ H R=>ta σ H λvs H1=>∃ b a1 a2 xs ys,vs=[.ref a1,.ref a2]/\Sq b K H1 a1 xs/\Sq b K H1 a2 ys/\R (Itz b K a1 a2) H1
theorem AO:bootBuiltins "zip"=some (.type "zip"):=by decide +kernel
theorem xR {n l1 l2:Nat}(h1:l1 < n) (h2:l2 < n):ZipApart (n+4) (n+2) (n+3) n (n+1) l1 l2:=by
 constructor<;>(show (_:Nat)≠_;omega)
theorem EB {a c:Expr}{ta:TA}{p pos pt:Pos}{elts:List Expr}{kt:Nat}(hg:Gl X "zip") (hm:X.mg "zip"=none) (ha:PA X [a,c] ta) (hs:starEach [a,c] X.env=[(false,eval a X.env),(false,eval c X.env)]:=by rfl) (hs2:starEach [c] X.env=[(false,eval c X.env)]:=by rfl) :
 PI X (.Tuple elts kt pt) (.Call (.Name "zip" p) [a,c] [] pos) (Gg X.K ta):=by
 intro pins s σ H R I h;refine Call_ (m5 I hg hm AO (PyProof.Rows.callWith_type1 (thn (ha pos pins s σ H _ I h) λus s1 ⟨vs,H1,I1,r1,q1⟩=>?_) (by rw[hs,hs2]) (by rw[hs2];rfl)));obtain⟨b,a1,a2,xs,ys,e,h1,h2,q⟩:=q1;subst e;obtain⟨u,w',rfl,ru,rw⟩:=Fx r1;cases ru;cases rw;obtain⟨us,_,p1⟩:=I1.sq h1;obtain⟨ws,_,p2⟩:=I1.sq h2;refine uR p1 p2 λh' z1 z2 z3 z4 z5 kk=>wpAny_pyIter_zip z1 ?_
 have fr:∀ b,s1.heap.objs.size <= b->x8 X pins H1 b:=λb hb=>I1.fpOk hb (I1.hok.fresh hb)
 refine⟨_,[s1.heap.objs.size+4,s1.heap.objs.size+2,s1.heap.objs.size+3,s1.heap.objs.size,s1.heap.objs.size+1],_,_,H1,rfl,I1.kept (t':=s1.toks) kk,Bg (xR p1.lt p2.lt),⟨z1,z2,⟨_,_,z3⟩,z4,z5⟩,λb hb=>fr b ?_,q⟩;simp only[mem_cons,not_mem_nil,or_false]at hb;rcases hb with rfl|rfl|rfl|rfl|rfl<;>omega
end
section
variable {X:Cx}
def DK:V->List V->Hp->VK->Prop:=λx vs H Q=>∃ (l:Addr) (ns:List Int) (i:Int),x=.ref l/\vs=[.int i]/\H l=some (.lst (ns.map V.int))/\i∈ns/\Q .non (upd H l (.lst ((ns.erase i).map V.int)))
theorem vZ:∀ {us:List Value}{ns:List Int}{m:Nat}{n:Int},IntsAre us ns->ns[m]?=some n->∃ t,us[m]?=some (.int n t)
|_,_,_,_,.nil,h=>by simp at h
|_,_,0,_,.cons n t _,h=>by simp at h;subst h;exact⟨t,rfl⟩
|_,_,m+1,_,.cons _ _ r,h=>by
  obtain⟨t,e⟩:=vZ (m:=m) r (by simpa using h);exact⟨t,by simpa using e⟩
theorem bC.erase:∀ {xs:List V}{us:List Value}(j:Nat),bC xs us->bC (xs.eraseIdx j) (us.eraseIdx j)
|_,_,_,.nil=>.nil
|_,_,0,.cons _ t=>t
|_,_,j+1,.cons r t=>.cons r (bC.erase j t)
theorem tU {α β:Type}(f:α->β):∀ (xs:List α) (j:Nat),(xs.map f).eraseIdx j=(xs.eraseIdx j).map f
|[],_=>rfl
|_ :: _,0=>rfl
|x :: xs,j+1=>by
  show f x :: (xs.map f).eraseIdx j=f x :: (xs.eraseIdx j).map f;rw[tU f xs j]
theorem rZ:MtM X "list.remove" DK:=by
 intro pins s σ H x vs v us Q I rx rv h;obtain⟨l,ns,i,rfl,rfl,hH,hi,q⟩:=h;cases rx;obtain⟨u,rfl,ru⟩:=rv.one;obtain⟨t,rfl⟩:=ru;obtain⟨z,its,n,r,hl,e⟩:=I.lstM hH;have ia:=pN r;rw[length_map]at hl z;have hj:ns.idxOf i < ns.length:=List.idxOf_lt_length_of_mem hi;obtain⟨tj,hitj⟩:=vZ ia (getElem?_eq_getElem hj);rw[List.getElem_idxOf hj]at hitj;have hjs:ns.idxOf i < its.toArray.size:=by rw[size_toArray,<-hl];exact hj
 let f:Value->Bool:=λy=>match y with
 |.int a _=>a == i
 |_=>false
 have eit:its.toArray[ns.idxOf i]=.int i tj:=by
  have h2:its.toArray[ns.idxOf i]?=some (.int i tj):=by rw[<-Array.getElem?_toList];exact hitj
  rw[Array.getElem?_eq_getElem hjs]at h2;exact Option.some.inj h2
 refine call_meets F.slot_list_remove ⟨_,e,rfl⟩ F.entry_list_remove (F.args_list_remove_2 _ _)
  (MeetsSeq.list_remove l its.toArray n (.int i t) f (λy hy=>?_) (ns.idxOf i) hjs (by rw[eit];simp[f]) (λm hm hlt=>?_) (by rw[size_toArray];omega)) ⟨e,?_⟩
 . obtain⟨m,hm,rfl⟩:=getElem_of_mem (Array.mem_toList_iff.mpr hy);have hmn:m < ns.length:=by
    have:m < its.length:=hm;omega
   obtain⟨t',ht'⟩:=vZ ia (getElem?_eq_getElem hmn);have:its.toArray.toList[m]=.int ns[m] t':=by
    have h2:=getElem?_eq_getElem (l:=its) (show m < its.length from hm);rw[ht']at h2;exact(Option.some.inj h2).symm
   rw[this];exact MeetsSeq.EqGives.int _ _ _ _
 . have hmn:m < ns.length:=by omega
   obtain⟨t',ht'⟩:=vZ ia (getElem?_eq_getElem hmn);have em:its.toArray[m]=.int ns[m] t':=by
    have h2:its.toArray[m]?=some (.int ns[m] t'):=by rw[<-Array.getElem?_toList];exact ht'
    rw[Array.getElem?_eq_getElem hm]at h2;exact Option.some.inj h2
   rw[em];show (ns[m] == i)=false;have:=List.not_of_lt_findIdx (p:=(· == i)) (xs:=ns) (i:=m) hlt;simpa using this
 . have ee:(ns.erase i).map V.int=(ns.map V.int).eraseIdx (ns.idxOf i):=by
    rw[List.erase_eq_eraseIdx_of_idxOf rfl,tU]
   rw[ee]at q;refine⟨.non,_,I.lset (its':=its.eraseIdx (ns.idxOf i)) hH e ?_ (bC.erase _ r) ?_,rfl,q⟩
   . show its.toArray.eraseIdxIfInBounds (ns.idxOf i)=(its.eraseIdx (ns.idxOf i)).toArray;rw[List.eraseIdxIfInBounds_toArray]
   . have:=List.length_eraseIdx_le (ns.map V.int) (ns.idxOf i);rw[length_map]at this;omega
theorem uK:∀ {us:List Value}{ns:List Int},IntsAre us ns->bC (ns.map V.int) us
|_,_,.nil=>.nil
|_,_,.cons n t r=>.cons ⟨t,rfl⟩ (uK r)
theorem kU:bootBuiltins "sorted"=some (.builtin "sorted"):=by decide +kernel
theorem uA:mw X (.builtin "sorted") (λxs H Q=>∃ (p:Addr) (ns:List Int),xs=[.ref p]/\SqL X.K H p (ns.map V.int)/\ns.length < 64/\∀ (l:Addr) (ns':List Int),H l=none->ns'.Perm ns->ns'.Pairwise (· <= ·)->Q (.ref l) (upd H l (.lst (ns'.map V.int)))):=by
 intro pins s σ H xs us Q I r h;obtain⟨p,ns,rfl,hq,h64,q⟩:=h;obtain⟨u,rfl,rx⟩:=mv r;cases rx;obtain⟨its,r',pl,hz⟩:=I.list hq;have ia:=pN r';have hl:=r'.length;rw[length_map]at hl hz;refine sorted_ints pl.isList ia (by omega) λout ns' a1 a2 a3=>?_
 obtain⟨e,he⟩:=sortedAll_at s.heap its out;have hsz:s.heap.objs.size <= s.heap.objs.size+1:=le_succ _;refine⟨.ref (s.heap.objs.size+1),_,I.laid (t':=s.toks) (o:=.lst (ns'.map V.int)) (λb o' q=>sortedAll_old q) hsz ?_,rfl,q _ _ (I.hok.fresh hsz) a2 a3⟩;exact⟨by rw[length_map,a2.length_eq];exact hz,out.toList,e,uK a1,he⟩
end
section
variable {X:Cx}
theorem pP {P:Program}{w:World}:∀ {vs:List (Key × Value)}{ns:List Int}{us:List Value},vs.map (·.1)=ns.map Sum.inl->us.length=vs.length ->
 (∀ (j:Nat) (u:Value),us[j]?=some u->∃ k x,vs[j]?=some (k,x)/\(bv P w).is k u=true)->IntsAre us ns
|[],[],[],_,_,_=>.nil
|[],[],_ :: _,_,h,_=>by cases h
|[],_ :: _,_,h,_,_=>by cases h
|_ :: _,[],_,h,_,_=>by cases h
|_ :: _,_ :: _,[],_,h,_=>by cases h
|(k,x) :: vs,n :: ns,u :: us,e,h,g=>by
  have e1:k=Sum.inl n:=by simpa using (List.cons.inj e).1
  subst e1;have r:=pP (P:=P) (w:=w) (us:=us) (List.cons.inj e).2 (by simpa using h) λj u' hu=>by
   obtain⟨k',x',q,q2⟩:=g (j+1) u' (by simpa using hu);exact⟨k',x',by simpa using q,q2⟩
  obtain⟨k',x',q,q2⟩:=g 0 u rfl;cases q;rcases bg (show my (Sum.inl n) u=true from q2) with⟨i,t,e1,e2⟩|⟨y,t,e1,e2⟩
  . cases e1;subst e2;exact .cons _ t r
  . cases e1
theorem mf (hc:X.calm=true):mw X (.builtin "sorted") (λxs H Q=>∃ (p:Addr) (kvs:List (Key × V)) (ns:List Int),xs=[.ref p]/\H p=some (.dK kvs)/\kvs.map (·.1)=ns.map Sum.inl/\ns.length < 64 /\
 ∀ (l:Addr) (ns':List Int),H l=none->ns'.Perm ns->ns'.Pairwise (· <= ·)->Q (.ref l) (upd H l (.lst (ns'.map V.int)))):=by
 intro pins s σ H xs us Q I r h;obtain⟨p,kvs,ns,rfl,hH,hk,h64,q⟩:=h;obtain⟨u,rfl,rx⟩:=mv r;cases rx;obtain⟨z,hd,vs,rel,dd⟩:=A1 I.hok hH;have hl:=rel.length;have hkv:vs.map (·.1)=ns.map Sum.inl:=by rw[<-hk];exact rel.keys.symm
 have hln:ns.length=vs.length:=by
  have:=congrArg List.length hkv;simpa using this.symm
 obtain⟨ep,hat⟩:=dd.dictAt;refine Calls.call_function_entry kind_sorted plain_sorted entry_sorted (args_sorted1 _) ?_;unfold Builtin.«sorted»;refine wpAny_bind (m:=checkCount "sorted" 1 1 _) (wpAny_pure ?_);refine wpAny_bind (kdu_collect (A:=X.A.in1) (kdl_dict (knd:=bv X.prog X.w) (kvs:=vs) (ep:=ep) hd) (I.ok.hd hc) hat (by omega) λh' tk acc hkp hacc=>?_);have I1:Inv X pins σ H { s with heap:=h',toks:=tk }:=I.kept (t':=tk) hkp;have hal:acc.toList.length=vs.length:=by rw[Array.length_toList];exact hacc.1
 have hI:IntsAre acc.toList ns:=pP (P:=X.prog) (w:=X.w) hkv hal λj u hu=>by
  obtain⟨k,x,e,g⟩:=hacc.2 j u (by rw[<-Array.getElem?_toList];exact hu);exact⟨k,x,e,g⟩
 refine wpAny_bind (wpAny_newList ?_ (by rw[hal];omega));have hoL:(h'.push (seqObj "list" acc.toList.toArray 0)).get? h'.objs.size=some (seqObj "list" acc.toList.toArray 0):=Heap.get?_push_size _ rfl;show wpAny _ _ _ _ _ { s with heap:=h'.push (seqObj "list" acc.toList.toArray 0),toks:=tk };refine wpAny_bind (wpAny_holding (wpAny_call_entry slot_list_sort ⟨_,hoL,rfl⟩ entry_list_sort (list_sort_tree hoL hI (by omega) λout ns' a1 a2 a3=>⟨_,rfl,?_⟩) (args_list_sort _)));obtain⟨e,he⟩:=sortedHeap_at (out:=out) hoL;refine wpAny_pure ⟨_,rfl,.ref h'.objs.size,_,I1.laid (t':=tk) (o:=.lst (ns'.map V.int)) (λb o' q=>?_) (Nat.le_refl _) ?_,rfl,q _ _ (I1.hok.fresh (Nat.le_refl _)) a2 a3⟩
 . rw[sortedHeap_old (ne_of_lt (Heap.lt_size q)) (by rw[size_push'];exact Nat.lt_succ_of_lt (Heap.lt_size q))];exact Heap.get?_push_of_some _ q
 . exact⟨by rw[length_map,a2.length_eq];omega,out.toList,e,uK a1,he⟩
end
theorem uh {prog:Program}{w:World}{A:Around}{E:Value->Shared->Prop}{s:Shared}{Q:Int->Shared->Prop}(h:Q 4238894112 { s with toks:=s.toks+1 }):wpAny (model prog w) A (pyHash .none) Q E s:=by
 have hT:s.TypeIs Value.none "NoneType":=rfl;unfold pyHash;have hv:[Value.none].any Value.onHeap=false:=rfl;refine wpAny_bind ?_;rw[cRoomFor,if_neg (by rw[hv];exact Bool.false_ne_true)];refine wpAny_pure ?_;refine wpAny_bind (wpAny_specialOf hT PySem.F.slot_NoneType_hash.lookup ?_);show wpAny _ _ (if (some (Value.builtin "NoneType.__hash__") == some Value.none)=true then _ else _) Q E s;rw[if_neg (by rw[beq_builtin_none];exact Bool.false_ne_true)];refine wpAny_bind (wpAny_specialOf hT PySem.F.slot_NoneType_hash.lookup ?_);show wpAny _ _ (callSpecialIfBoundUnlessNone? Value.none "__hash__" _ >>= _) Q E s;refine wpAny_bind (wpAny_callSpecialIfBoundUnlessNone?_slot hT PySem.F.slot_NoneType_hash
  (wpAny_call_entry PySem.F.slot_NoneType_hash hT PySem.F.entry_NoneType_hash
   (show wpAny _ _ (do ret (<-mkInt 4238894112)) _ _ s from wpAny_ret_mkInt ?_) (PySem.F.args_NoneType_hash_1 _)))
 show wpAny _ _ (if (decide (-(2:Int) ^ 63 <= 4238894112) && decide ((4238894112:Int) < 2 ^ 63))=true then _ else _) Q E _;rw[if_pos (by decide)];exact wpAny_pure h
def Ft:Option Key->Value->Bool
|none,.none=>true
|none,_=>false
|some k,v=>my k v
theorem dU {v:Value}(h:Ft none v=true):v=.none:=by
 cases v<;>first|rfl|cases h
def uG (prog:Program) (w:World):PySem.KeyKind prog w (Option Key) where
 is:=Ft
 hash:=λk=>match k with
 |none=>4238894112
 |some k=>Hh w k
 inj:=λv a b ha hb=>by
  cases a with
 |none =>
   cases dU ha;cases b with
  |none=>rfl
  |some k=>rcases bg (show my k Value.none=true from hb) with⟨i,t,_,e⟩|⟨x,t,_,e⟩<;>cases e
 |some k =>
   cases b with
  |none =>
    cases dU hb;rcases bg (show my k Value.none=true from ha) with⟨i,t,_,e⟩|⟨x,t,_,e⟩<;>cases e
  |some k'=>rw[(bv prog w).inj v k k' ha hb]
 byValue:=λk v h=>by
  cases k with
 |none=>cases dU h;rfl
 |some k=>exact(bv prog w).byValue k v h
 pyHash:=λ{A E s k v Q} hv h=>by
  cases k with
 |none=>cases dU hv;exact uh h
 |some k=>exact(bv prog w).pyHash (k:=k) hv h
 eqBool:=λ{A E s a b u v Q} hu hv h=>by
  cases a with
 |none =>
   cases dU hu;cases b with
  |none=>cases dU hv;exact SeqAt.EqAt.same Value.none _ _ _ _ h
  |some k =>
    rcases bg (show my k v=true from hv) with⟨i,t,rfl,rfl⟩|⟨x,t,rfl,rfl⟩
    . exact SeqAt.EqAt.none_int i t _ _ _ _ h
    . exact SeqAt.EqAt.none_str x t _ _ _ _ h
 |some k =>
   cases b with
  |none =>
    cases dU hv;rcases bg (show my k u=true from hu) with⟨i,t,rfl,rfl⟩|⟨x,t,rfl,rfl⟩
    . exact SeqAt.EqAt.int_none i t _ _ _ _ h
    . exact SeqAt.EqAt.str_none x t _ _ _ _ h
  |some k' =>
    refine(bv prog w).eqBool (a:=k) (b:=k') hu hv ?_;have e:decide (some k=some k')=decide (k=k'):=by
     rw[decide_eq_decide];exact⟨λz=>Option.some.inj z,λz=>by rw[z]⟩
    rw[<-e];exact h
 «strs»:=λk x t v h=>by
  cases k with
 |none=>cases h
 |some k=>exact(bv prog w).strs k x t v h
theorem ua {P:Program}{w:World}:∀ {es:List DictEntry}{vs:List (Key × Value)},Pairs (bv P w) es vs->Pairs (uG P w) es (vs.map λq=>(some q.1,q.2))
|_,_,.nil=>.nil
|_,_,.cons a b t=>.cons a b (ua t)
theorem B0 {P:Program}{w:World}{h:Heap}{a:Addr}{vs:List (Key × Value)}(d:h.DictOf (bv P w) a vs):h.DictOf (uG P w) a (vs.map λq=>(some q.1,q.2)):=by
 obtain⟨o,es,ep,h1,h2,h3,h4,h5,h6⟩:=d;refine⟨o,es,ep,h1,h2,h3,λe he=>?_,ua h5,?_⟩
 . obtain⟨k,a,b⟩:=h4 e he;exact⟨some k,a,b⟩
 . rw[map_map];have:((λq:Option Key × Value=>q.1) ∘ λq:Key × Value=>(some q.1,q.2))=some ∘ (λq:Key × Value=>q.1):=rfl;rw[this,<-map_map];exact Pairwise.map _ (λa b n z=>n (Option.some.inj z)) h6
theorem BT:∀ (vs:List (Key × Value)),valueAt (vs.map λq=>(some q.1,q.2)) (none:Option Key)=none
|[]=>rfl
|q :: vs=>by
  have:=BT vs;unfold valueAt at this |-;rw[map_cons,find?_cons];have e:decide (((some q.1,q.2):Option Key × Value).1=none)=false:=rfl;rw[e];exact this
def E9 (td ty tx:TE):TE:=λσ H Q=>td σ H λx H1=>∃ a,x=.ref a/\IsD H1 a/\ty σ H1 λy H2=>tx σ H2 λz H3=>∃ kvs,H3 a=some (.dK kvs) /\
 ((∃ k,y=kV k/\(∀ v,oG kvs k=some v->Q v (upd H3 a (.dK (tR kvs k))))/\(oG kvs k=none->Q z H3))\/(y=.non/\Q z H3))
theorem zi {X:Cx}{o e f:Expr}{apos cpos:Pos}{td ty tx:TE}(ho:PE X o td) (he:PE X e ty) (hf:PE X f tx) (m:M2 X o "pop" apos e f cpos):PE X (.Call (.Attribute o "pop" apos) [e,f] [] cpos) (E9 td ty tx):=by
 intro pins s σ H Q I h;refine wpAny_Call_method m.base m.few m.line PySem.F.plainAttrs_dict PySem.F.slot_dict_pop PySem.F.type_dict_pop (thn (ho pins s σ H _ I h) λu s1 ⟨x,H1,I1,rx,a,ex,d,q1⟩=>?_);subst ex;obtain rfl:u=Value.ref a:=rx;obtain⟨t1,t2,_⟩:=Cr I1 d;refine⟨t1,t2,?_⟩;rw[m.trees];refine Calls.callWith_builtin rfl (Calls.evalArgs_plain (Calls.spliced_cons (thn (he pins s1 σ H1 _ I1 q1) λiv s2 ⟨y,H2,I2,ry,q2⟩ =>
  Calls.spliced_cons (thn (hf pins s2 σ H2 _ I2 q2) λfv s3 ⟨z,H3,I3,rz,kvs,ea,q3⟩=>Calls.spliced_nil ?_))))
 rcases q3 with⟨k,ey,q3,q4⟩|⟨ey,q4⟩
 . subst ey;cases l:oG kvs k with
  |some v=>exact EI I3 ea ry l (.inr ⟨fv,rfl⟩) λw' s4 I4 rw'=>⟨v,_,I4,rw',q3 v l⟩
  |none=>exact EC I3 ea ry l λs4 I4=>⟨z,H3,I4,rz,q4 l⟩
 . subst ey;cases ry;obtain⟨zz,hd,vs,rel,dd⟩:=A1 I3.hok ea;exact call_meetsIn PySem.F.slot_dict_pop dd.typeIs PySem.F.entry_dict_pop (PySem.F.args_dict_pop_3 _ _ _) (meets_dict_pop_default (uG X.prog X.w) a (k:=none) (key:=Value.none) rfl hd rfl fv) ⟨_,B0 dd,BT vs,⟨z,H3,I3.tok _,rz,q4⟩⟩
theorem A3 {x hd rl:Addr}{l:Bool->Addr}{c:Addr}(hc:c=x\/c=hd\/c=rl\/∃ b,c=l b):Sto.own x hd rl l c:=by
 rcases hc with h|h|h|⟨b',h⟩
 . exact .inl h
 . exact .inr (.inl h)
 . exact .inr (.inr (.inl h))
 . cases b'
   . exact .inr (.inr (.inr (.inl h)))
   . exact .inr (.inr (.inr (.inr h)))
theorem CZ {x hd rl:Addr}{l:Bool->Addr}(b:Bool):Sto.own x hd rl l (l b):=A3 (.inr (.inr (.inr ⟨b,rfl⟩)))
theorem Fg {x hd rl:Addr}{l:Bool->Addr}:Sto.own x hd rl l hd:=.inr (.inl rfl)
theorem Sto.kp {w:World}{C:Addr}{H H':Hp}{x hd rl:Addr}{l:Bool->Addr}{M:List (PyData × V)}{r:Bool->List (PyData × V)}{xs:List Addr}(S:Sto w C H x hd rl l M r) (k:Kp xs H H') (h:∀ c∈xs,¬ Sto.own x hd rl l c) (ht:∀ c∈xs,∀ vs,H c≠some (.tup vs)):Sto w C H' x hd rl l M r :=
 S.keep (λc o hc e=>k c o (λz=>h c z (A3 hc)) e) λc vs e=>k c _ (λz=>ht c z vs e) e
theorem Kp.one {H:Hp}{c:Addr}{o:HO}:Kp [c] H (upd H c o):=λb u n e=>by rw[aa λz=>n (mem_singleton.mpr z)];exact e
theorem fld {K:PySem.W.Frag}{H:Hp}{a C dx:Addr}{fs:List (Str × V)}{v:V}{f:Str}{Q:V->Prop}(hx:H a=some (.ins C dx fs)) (c:Cls K C) (na:be K C f) (l:fs.lookup f=some v) (q:Q v) :
 ∃ a' C' dx' fs' v',V.ref a=.ref a'/\H a'=some (.ins C' dx' fs')/\Cls K C'/\be K C' f/\fs'.lookup f=some v'/\Q v':=⟨a,C,dx,fs,v,rfl,hx,c,na,l,q⟩
structure RP where
 s:Int
 R:Int
 e:Bool
structure RP.Ok (p:RP):Prop where
 s0:0 < p.s
 s8:p.s <= 8
 sR:0 < p.s * p.R
structure SA where
 x:Addr
 hd:Addr
 rl:Addr
 l:Bool->Addr
abbrev SA.At (w:World) (C:Addr) (H:Hp) (z:SA) (M:List (PyData × V)) (r:Bool->List (PyData × V)):Prop:=Sto w C H z.x z.hd z.rl z.l M r
def SA.own (z:SA) (c:Addr):Prop:=Sto.own z.x z.hd z.rl z.l c
def rF (st:Addr) (b:Bool) (w0 w1 w2:Str) (p:RP):List (Str × V) :=
 bO "counter_first" (.bl p.e) (bO "rounds" (.int p.R) (bO "size" (.int p.s) (bO "fetched" (.str w2) (bO "laid" (.str w1) (bO "word" (.str w0) (bO "side" (.int (sdI b)) (bO "shelf" (.ref st) [])))))))
section
variable {st:Addr}{b:Bool}{w0 w1 w2:Str}{p:RP}
theorem g9:(rF st b w0 w1 w2 p).lookup ("shelf":Str)=some (.ref st):=by unfold rF;repeat (first|rw[a8,if_pos rfl]|rw[a8,if_neg (by decide +kernel)]);try rfl
theorem j4:(rF st b w0 w1 w2 p).lookup ("side":Str)=some (.int (sdI b)):=by unfold rF;repeat (first|rw[a8,if_pos rfl]|rw[a8,if_neg (by decide +kernel)]);try rfl
theorem DE:(rF st b w0 w1 w2 p).lookup ("word":Str)=some (.str w0):=by unfold rF;repeat (first|rw[a8,if_pos rfl]|rw[a8,if_neg (by decide +kernel)]);try rfl
theorem rO:(rF st b w0 w1 w2 p).lookup ("laid":Str)=some (.str w1):=by unfold rF;repeat (first|rw[a8,if_pos rfl]|rw[a8,if_neg (by decide +kernel)]);try rfl
theorem lI:(rF st b w0 w1 w2 p).lookup ("fetched":Str)=some (.str w2):=by unfold rF;repeat (first|rw[a8,if_pos rfl]|rw[a8,if_neg (by decide +kernel)]);try rfl
theorem qI:(rF st b w0 w1 w2 p).lookup ("size":Str)=some (.int p.s):=by unfold rF;repeat (first|rw[a8,if_pos rfl]|rw[a8,if_neg (by decide +kernel)]);try rfl
theorem sI:(rF st b w0 w1 w2 p).lookup ("rounds":Str)=some (.int p.R):=by unfold rF;repeat (first|rw[a8,if_pos rfl]|rw[a8,if_neg (by decide +kernel)]);try rfl
theorem rM:(rF st b w0 w1 w2 p).lookup ("counter_first":Str)=some (.bl p.e):=by unfold rF;repeat (first|rw[a8,if_pos rfl]|rw[a8,if_neg (by decide +kernel)]);try rfl
theorem kR:(rF st b w0 w1 w2 p).lookup ("filled":Str)=none:=by unfold rF;repeat (first|rw[a8,if_pos rfl]|rw[a8,if_neg (by decide +kernel)]);try rfl
theorem y4:(rF st b w0 w1 w2 p).lookup ("is_full":Str)=none:=by unfold rF;repeat (first|rw[a8,if_pos rfl]|rw[a8,if_neg (by decide +kernel)]);try rfl
theorem qw:(rF st b w0 w1 w2 p).lookup ("place_at":Str)=none:=by unfold rF;repeat (first|rw[a8,if_pos rfl]|rw[a8,if_neg (by decide +kernel)]);try rfl
theorem lm:(rF st b w0 w1 w2 p).lookup ("write_further":Str)=none:=by unfold rF;repeat (first|rw[a8,if_pos rfl]|rw[a8,if_neg (by decide +kernel)]);try rfl
theorem BX:(rF st b w0 w1 w2 p).lookup ("lay":Str)=none:=by unfold rF;repeat (first|rw[a8,if_pos rfl]|rw[a8,if_neg (by decide +kernel)]);try rfl
theorem vP:(rF st b w0 w1 w2 p).lookup ("fetch":Str)=none:=by unfold rF;repeat (first|rw[a8,if_pos rfl]|rw[a8,if_neg (by decide +kernel)]);try rfl
end
def Rn (CR:Addr) (H:Hp) (q st:Addr) (b:Bool) (w0 w1 w2:Str) (p:RP):Prop:=∃ dx,H q=some (.ins CR dx (rF st b w0 w1 w2 p))
def gK (ns:List Int):List (Key × V):=ns.map λi=>(.inl i,.bl true)
theorem nj (i:Int):∀ ns:List Int,oG (gK ns) (.inl i)=if ns.contains i then some (.bl true) else none
|[]=>rfl
|n :: ns=>by
  by_cases h:n=i
  . subst h;show oG ((Sum.inl n,V.bl true) :: gK ns) _=_;rw[kE rfl,contains_cons];simp
  . show oG ((Sum.inl n,V.bl true) :: gK ns) _=_;rw[kD (λz=>h (Sum.inl.inj z)),nj i ns,contains_cons];have:(i == n)=false:=by simpa using λz=>h z.symm
    rw[this];rfl
theorem Cb (i:Int) (ns:List Int) (h:ns.contains i=false):rg (gK ns) (.inl i) (.bl true)=gK (ns++[i]):=by
 unfold rg;rw[mP,nj,h];simp[gK]
theorem DD (i:Int) (ns:List Int) (h:ns.contains i=true):rg (gK ns) (.inl i) (.bl true)=gK ns:=by
 unfold rg;rw[mP,nj,h];simp only[if_true,isSome_some];unfold gK;rw[map_map];refine List.map_congr_left λx _=>?_
 show (if Sum.inl x=Sum.inl i then _ else _)=_;split<;>rfl
theorem uS (i:Int):∀ ns:List Int,tR (gK ns) (.inl i)=gK (ns.filter (λn=>decide (n≠i)))
|[]=>rfl
|n :: ns=>by
  have ih:=uS i ns;unfold tR gK at ih |-;rw[map_cons,filter_cons,filter_cons,ih];have e:decide (((Sum.inl n,V.bl true):Key × V).1≠Sum.inl i)=decide (n≠i):=by
   by_cases h:n=i
   . subst h;simp
   . have:(Sum.inl n:Key)≠Sum.inl i:=λz=>h (Sum.inl.inj z)
     simp[h,this]
  rw[e];split<;>rfl
theorem C4 (ns:List Int):(gK ns).length=ns.length:=by unfold gK;rw[length_map]
def gM (ns:List Int) (i:Int):List Int:=if ns.contains i then ns else ns++[i]
theorem CV (i:Int) (ns:List Int):rg (gK ns) (.inl i) (.bl true)=gK (gM ns i):=by
 unfold gM;cases h:ns.contains i with
|true=>rw[DD i ns h];rfl
|false=>rw[Cb i ns h];rfl
structure HA where
 h:Addr
 ra:Addr
 rb:Addr
 gd:Addr
def hF (z:HA) (n:Int):List (Str × V):=bO "going" (.ref z.gd) (bO "names" (.int n) (bO "answers" (.ref z.rb) (bO "asks" (.ref z.ra) [])))
section
variable {z:HA}{n:Int}
theorem yj:(hF z n).lookup ("asks":Str)=some (.ref z.ra):=by unfold hF;repeat (first|rw[a8,if_pos rfl]|rw[a8,if_neg (by decide +kernel)]);try rfl
theorem pQ:(hF z n).lookup ("answers":Str)=some (.ref z.rb):=by unfold hF;repeat (first|rw[a8,if_pos rfl]|rw[a8,if_neg (by decide +kernel)]);try rfl
theorem AC:(hF z n).lookup ("names":Str)=some (.int n):=by unfold hF;repeat (first|rw[a8,if_pos rfl]|rw[a8,if_neg (by decide +kernel)]);try rfl
theorem kz:(hF z n).lookup ("going":Str)=some (.ref z.gd):=by unfold hF;repeat (first|rw[a8,if_pos rfl]|rw[a8,if_neg (by decide +kernel)]);try rfl
theorem vy:(hF z n).lookup ("least_free":Str)=none:=by unfold hF;repeat (first|rw[a8,if_pos rfl]|rw[a8,if_neg (by decide +kernel)]);try rfl
theorem wf:(hF z n).lookup ("check_ask":Str)=none:=by unfold hF;repeat (first|rw[a8,if_pos rfl]|rw[a8,if_neg (by decide +kernel)]);try rfl
theorem FE:(hF z n).lookup ("ask":Str)=none:=by unfold hF;repeat (first|rw[a8,if_pos rfl]|rw[a8,if_neg (by decide +kernel)]);try rfl
theorem wX:(hF z n).lookup ("collect":Str)=none:=by unfold hF;repeat (first|rw[a8,if_pos rfl]|rw[a8,if_neg (by decide +kernel)]);try rfl
theorem BM:(hF z n).lookup ("under_way":Str)=none:=by unfold hF;repeat (first|rw[a8,if_pos rfl]|rw[a8,if_neg (by decide +kernel)]);try rfl
theorem Av:(hF z n).lookup ("something_waits":Str)=none:=by unfold hF;repeat (first|rw[a8,if_pos rfl]|rw[a8,if_neg (by decide +kernel)]);try rfl
end
structure Hn (CH CR:Addr) (H:Hp) (z:HA) (st:Addr) (p:RP) (n:Int) (aw:List Int):Prop where
 ob:∃ dx,H z.h=some (.ins CH dx (hF z n))
 ra:Rn CR H z.ra st false "ask" "asked" "taken" p
 rb:Rn CR H z.rb st false "answer" "answered" "handed" p
 go:H z.gd=some (.dK (gK aw))
def HA.own (z:HA) (c:Addr):Prop:=c=z.h\/c=z.ra\/c=z.rb\/c=z.gd
structure TA' where
 h:Addr
 ra:Addr
 rb:Addr
 gd:Addr
def tF (z:TA'):List (Str × V):=bO "doing" (.ref z.gd) (bO "answers" (.ref z.rb) (bO "asks" (.ref z.ra) []))
section
variable {z:TA'}
theorem z0:(tF z).lookup ("asks":Str)=some (.ref z.ra):=by unfold tF;repeat (first|rw[a8,if_pos rfl]|rw[a8,if_neg (by decide +kernel)]);try rfl
theorem pU:(tF z).lookup ("answers":Str)=some (.ref z.rb):=by unfold tF;repeat (first|rw[a8,if_pos rfl]|rw[a8,if_neg (by decide +kernel)]);try rfl
theorem mX:(tF z).lookup ("doing":Str)=some (.ref z.gd):=by unfold tF;repeat (first|rw[a8,if_pos rfl]|rw[a8,if_neg (by decide +kernel)]);try rfl
theorem DP:(tF z).lookup ("take":Str)=none:=by unfold tF;repeat (first|rw[a8,if_pos rfl]|rw[a8,if_neg (by decide +kernel)]);try rfl
theorem vG:(tF z).lookup ("check_answer":Str)=none:=by unfold tF;repeat (first|rw[a8,if_pos rfl]|rw[a8,if_neg (by decide +kernel)]);try rfl
theorem zW:(tF z).lookup ("answer":Str)=none:=by unfold tF;repeat (first|rw[a8,if_pos rfl]|rw[a8,if_neg (by decide +kernel)]);try rfl
theorem Am:(tF z).lookup ("tasks":Str)=none:=by unfold tF;repeat (first|rw[a8,if_pos rfl]|rw[a8,if_neg (by decide +kernel)]);try rfl
theorem AK:(tF z).lookup ("something_waits":Str)=none:=by unfold tF;repeat (first|rw[a8,if_pos rfl]|rw[a8,if_neg (by decide +kernel)]);try rfl
end
structure Tn (CT CR:Addr) (H:Hp) (z:TA') (st:Addr) (p:RP) (ts:List Int):Prop where
 ob:∃ dx,H z.h=some (.ins CT dx (tF z))
 ra:Rn CR H z.ra st true "ask" "asked" "taken" p
 rb:Rn CR H z.rb st true "answer" "answered" "handed" p
 go:H z.gd=some (.dK (gK ts))
def TA'.own (z:TA') (c:Addr):Prop:=c=z.h\/c=z.ra\/c=z.rb\/c=z.gd
section
variable {CH CT CR:Addr}{H H':Hp}{st:Addr}{p:RP}{n:Int}{aw:List Int}
theorem Rn.keep {q:Addr}{b:Bool}{w0 w1 w2:Str}(r:Rn CR H q st b w0 w1 w2 p) (k:∀ o,H q=some o->H' q=some o):Rn CR H' q st b w0 w1 w2 p:=by
 obtain⟨dx,hx⟩:=r;exact⟨dx,k _ hx⟩
theorem Hn.keep {z:HA}(B:Hn CH CR H z st p n aw) (k:∀ c o,z.own c->H c=some o->H' c=some o):Hn CH CR H' z st p n aw:=by
 obtain⟨dx,hx⟩:=B.ob;exact⟨⟨dx,k _ _ (.inl rfl) hx⟩,B.ra.keep λo=>k _ o (.inr (.inl rfl)),B.rb.keep λo=>k _ o (.inr (.inr (.inl rfl))),k _ _ (.inr (.inr (.inr rfl))) B.go⟩
theorem Hn.same {z:HA}(B:Hn CH CR H z st p n aw) (q:bG H H'):Hn CH CR H' z st p n aw:=B.keep λc o _=>q c o
theorem Hn.there {z:HA}(B:Hn CH CR H z st p n aw) {c:Addr}(hc:z.own c):∃ o,H c=some o/\((∃ C dx fs,o=.ins C dx fs)\/∃ kvs,o=.dK kvs):=by
 rcases hc with rfl|rfl|rfl|rfl
 . obtain⟨dx,hx⟩:=B.ob;exact⟨_,hx,.inl ⟨_,_,_,rfl⟩⟩
 . obtain⟨dx,hx⟩:=B.ra;exact⟨_,hx,.inl ⟨_,_,_,rfl⟩⟩
 . obtain⟨dx,hx⟩:=B.rb;exact⟨_,hx,.inl ⟨_,_,_,rfl⟩⟩
 . exact⟨_,B.go,.inr ⟨_,rfl⟩⟩
theorem Hn.lists {z:HA}{xs:List Addr}(B:Hn CH CR H z st p n aw) (k:Kp xs H H') (hx:∀ c∈xs,(∃ ys,H c=some (.lst ys))\/∃ ee:List DictEntry × Nat,H c=some (ki c ee.1 ee.2)):Hn CH CR H' z st p n aw :=
 B.keep λc o hc q=>k c o (λm=>by
  obtain⟨o',e,s⟩:=B.there hc;rcases hx c m with⟨ys,e'⟩|⟨ee,e'⟩
  . rw[e]at e';cases e';rcases s with⟨_,_,_,s⟩|⟨_,s⟩<;>cases s
  . rw[e]at e';cases e';rcases s with⟨_,_,_,s⟩|⟨_,s⟩<;>cases s) q
theorem Tn.keep {z:TA'}(B:Tn CT CR H z st p aw) (k:∀ c o,z.own c->H c=some o->H' c=some o):Tn CT CR H' z st p aw:=by
 obtain⟨dx,hx⟩:=B.ob;exact⟨⟨dx,k _ _ (.inl rfl) hx⟩,B.ra.keep λo=>k _ o (.inr (.inl rfl)),B.rb.keep λo=>k _ o (.inr (.inr (.inl rfl))),k _ _ (.inr (.inr (.inr rfl))) B.go⟩
theorem Tn.there {z:TA'}(B:Tn CT CR H z st p aw) {c:Addr}(hc:z.own c):∃ o,H c=some o/\((∃ C dx fs,o=.ins C dx fs)\/∃ kvs,o=.dK kvs):=by
 rcases hc with rfl|rfl|rfl|rfl
 . obtain⟨dx,hx⟩:=B.ob;exact⟨_,hx,.inl ⟨_,_,_,rfl⟩⟩
 . obtain⟨dx,hx⟩:=B.ra;exact⟨_,hx,.inl ⟨_,_,_,rfl⟩⟩
 . obtain⟨dx,hx⟩:=B.rb;exact⟨_,hx,.inl ⟨_,_,_,rfl⟩⟩
 . exact⟨_,B.go,.inr ⟨_,rfl⟩⟩
theorem Tn.lists {z:TA'}{xs:List Addr}(B:Tn CT CR H z st p aw) (k:Kp xs H H') (hx:∀ c∈xs,(∃ ys,H c=some (.lst ys))\/∃ ee:List DictEntry × Nat,H c=some (ki c ee.1 ee.2)):Tn CT CR H' z st p aw :=
 B.keep λc o hc q=>k c o (λm=>by
  obtain⟨o',e,s⟩:=B.there hc;rcases hx c m with⟨ys,e'⟩|⟨ee,e'⟩
  . rw[e]at e';cases e';rcases s with⟨_,_,_,s⟩|⟨_,s⟩<;>cases s
  . rw[e]at e';cases e';rcases s with⟨_,_,_,s⟩|⟨_,s⟩<;>cases s) q
end
def bw (n:Nat) (aw:List Int):Option Int:=(List.range n).map (λ(k:Nat)=>(k:Int)) |>.find? λk=>!aw.contains k
theorem xk {n i:Nat}{aw:List Int}(hi:i < n) (h:aw.contains (i:Int)=false) (hno:∀ j < i,aw.contains (j:Int)=true):bw n aw=some (i:Int):=by
 unfold bw;rw[List.find?_eq_some_iff_getElem];refine⟨by rw[h];rfl,i,by simpa using hi,by simp,λj hj=>?_⟩;simp only[List.getElem_map,List.getElem_range];rw[hno j hj];rfl
theorem xG {n:Nat}{aw:List Int}(hno:∀ j < n,aw.contains (j:Int)=true):bw n aw=none:=by
 unfold bw;rw[find?_eq_none];intro x hx;obtain⟨j,hj,rfl⟩:=mem_map.mp hx;rw[hno j (mem_range.mp hj)];decide
theorem jn {n:Nat}{aw:List Int}{k:Int}(h:bw n aw=some k):aw.contains k=false:=by
 unfold bw at h;have:=List.find?_some h;simpa using this
theorem mW {n:Nat}{aw:List Int}{k:Int}(h:bw n aw=some k):0 <= k/\k < n:=by
 unfold bw at h;have:=List.mem_of_find?_eq_some h;obtain⟨j,hj,rfl⟩:=mem_map.mp this;have:=mem_range.mp hj;omega
theorem qy (i:Str):∀ ns:List Str,inV (.str i) (ns.map V.str)=ns.contains i
|[]=>rfl
|n :: ns=>by
  have ih:=qy i ns;unfold inV at ih |-;rw[map_cons,any_cons,ih,contains_cons];congr 1;show eqV (.str n) (.str i)=(i == n)
  simp only[eqV];rw[Bool.eq_iff_iff,beq_iff_eq,beq_iff_eq];exact eq_comm
theorem gH:∀ ns:List Str,(ns.map V.str).all pD=true
|[]=>rfl
|n :: ns=>by rw[map_cons,all_cons,gH ns];rfl
theorem pR {α:Type}{r:Bool->α}{b:Bool}{u v:α}:ba (ba r b u) b v=ba r b v:=by
 funext c;unfold ba;split<;>rfl
theorem kS {H:Hp}{t:Str}(h:PyData.strOk t=true):mL H (.str t) (.str t):=⟨h,by show 0 <= 8;decide,rfl,.inl ⟨_,rfl⟩⟩
theorem kT {H:Hp}{a:Addr}{t:Str}{i:Int}(h:PyData.strOk t=true) (ha:H a=some (.tup [.str t,.int i])):mL H (.tuple [.str t,.int i]) (.ref a):=⟨by
 show (PyData.strOk _ && (true && true))=true;rw[h];rfl,by show 1 <= 8;decide,⟨a,_,rfl,ha,⟨_,_,rfl,rfl,_,_,rfl,rfl,rfl⟩⟩,.inr ⟨_,rfl⟩⟩
theorem up1 {H:Hp}{a b:Addr}{o:HO}(h:upd H a o b=none):b≠a/\H b=none:=by
 have n:b≠a:=λz=>by rw[z,a6]at h;cases h
 exact⟨n,by rw[aa n]at h;exact h⟩
theorem b9 {H H':Hp}{c:Addr}(e:bG H H') (h:H' c=none):H c=none:=by
 cases z:H c with
|none=>rfl
|some o=>rw[e c o z]at h;cases h
theorem fu {H H':Hp}{xs:List Addr}{c:Addr}(e:Kp xs H H') (h:H' c=none) (n:∀ x∈xs,H' x≠none):H c=none:=by
 cases z:H c with
|none=>rfl
|some o=>rw[e c o (λm=>n c m h) z]at h;cases h
def nK (p:RP) (w0 w1:Str) (A:Int) (t:V):List (PyData × V) :=
 if p.e then [(.str w1,.int ((A+1) % (p.s * p.R))),(.tuple [.str w0,.int (A % p.s)],t)] else [(.tuple [.str w0,.int (A % p.s)],t),(.str w1,.int ((A+1) % (p.s * p.R)))]
theorem Sto.noT {w:World}{C:Addr}{H:Hp}{x hd rl:Addr}{l:Bool->Addr}{M:List (PyData × V)}{r:Bool->List (PyData × V)}(S:Sto w C H x hd rl l M r) {b:Bool}{c:Addr}{vs:List V}(h:H c=some (.tup vs)):c ∉ [l b]:=λz=>by
 obtain⟨ts,e,_⟩:=S.rw b;rw[mem_singleton.mp z,e]at h;cases h
theorem Sto.noI {w:World}{C:Addr}{H:Hp}{x hd rl:Addr}{l:Bool->Addr}{M:List (PyData × V)}{r:Bool->List (PyData × V)}(S:Sto w C H x hd rl l M r) {b:Bool}{c C' dx:Addr}{fs:List (Str × V)}(h:H c=some (.ins C' dx fs)):c ∉ [l b]:=λz=>by
 obtain⟨ts,e,_⟩:=S.rw b;rw[mem_singleton.mp z,e]at h;cases h
theorem Sto.noD {w:World}{C:Addr}{H:Hp}{x hd rl:Addr}{l:Bool->Addr}{M:List (PyData × V)}{r:Bool->List (PyData × V)}(S:Sto w C H x hd rl l M r) {c:Addr}{kvs:List (Key × V)}(h:H c=some (.dK kvs)):¬ Sto.own x hd rl l c:=λz=>by
 rcases z with rfl|rfl|rfl|rfl|rfl
 . obtain⟨dx,e⟩:=S.ob;rw[e]at h;cases h
 . obtain⟨es,e⟩:=S.me.there;rw[e]at h;cases h
 . rw[S.ro]at h;cases h
 . obtain⟨ts,e,_⟩:=S.rw false;rw[e]at h;cases h
 . obtain⟨ts,e,_⟩:=S.rw true;rw[e]at h;cases h
theorem Ek {X:Cx}:jB (CXv X.prog X.w) X E0:=λ_ _ _ _ _ _ _ h=>by
 obtain⟨_,_,_,_,_,_,_,_,_,_,_,_,_,_,q⟩:=h;exact q.elim
theorem fY {K:PySem.W.Frag}{H:Hp}{a C:Addr}{fs:List (Str × V)}{v:V}{f:Str}{Q:V->Prop}(hx:∃ dx,H a=some (.ins C dx fs)) (c:Cls K C) (na:be K C f) (l:fs.lookup f=some v) (q:Q v) :
 ∃ a' C' dx' fs' v',V.ref a=.ref a'/\H a'=some (.ins C' dx' fs')/\Cls K C'/\be K C' f/\fs'.lookup f=some v'/\Q v':=let ⟨dx,hx⟩:=hx;⟨a,C,dx,fs,v,rfl,hx,c,na,l,q⟩
theorem gO {H:Hp}{a C:Addr}{fs:List (Str × V)}{m:Str}{q:Prop}(hx:∃ dx,H a=some (.ins C dx fs)) (l:fs.lookup m=none) (h:q) :
 ∃ a' dx' fs',V.ref a=.ref a'/\H a'=some (.ins C dx' fs')/\fs'.lookup m=none/\q:=let ⟨dx,hx⟩:=hx;⟨a,dx,fs,rfl,hx,l,h⟩
section
variable {w:World}{CH CR CS:Addr}{H H':Hp}{z:HA}{sa:SA}{p:RP}{n:Int}{aw:List Int}{M:List (PyData × V)}{r:Bool->List (PyData × V)}
end
section
variable {w:World}{CT CR CS:Addr}{H H':Hp}{z:TA'}{sa:SA}{p:RP}{aw:List Int}{M:List (PyData × V)}{r:Bool->List (PyData × V)}
end
def RD (H:Hp) (p:PyData × V) (d:PyData):Prop:=∃ x,d=.tuple [p.1,x]/\DV H x p.2
theorem vf {H:Hp}:∀ {es:List (PyData × V)}{ts:List V}{ds:List PyData},Paired (Wt H) es ts->Paired (RD H) es ds->DVs H ds ts
|_,_,_,.nil,.nil=>rfl
|_,_,_,.cons ⟨t,cv,e,ht,hk⟩ r,.cons ⟨x,e',dx⟩ r'=>by
  subst e e';exact⟨_,_,rfl,⟨t,_,rfl,ht,_,_,rfl,hk.2.2.1,_,_,rfl,dx,rfl⟩,vf r r'⟩
theorem mI {H H':Hp}{h dh:Addr}{C:Addr}(nh:H h=none) (ndh:H dh=none) (kp:Kp [h] (upd (upd H dh (.own h)) h (.ins C dh [])) H'):bG H H':=λc o e=>by
 have y1:=ae e ndh;have y2:=ae e nh;exact kp c o (λz=>y2 (mem_singleton.mp z)) (by rw[aa y2,aa y1];exact e)
theorem rE:([]:List V).length <= sizeLine:=by show 0 <= sizeLine;decide
theorem Cu {K:PySem.W.Frag}:kitOne K (.type "tuple") (.type "tuple")=some true:=by rfl
theorem FS {K:PySem.W.Frag}:kitOne K (.type "int") (.type "tuple")=some false:=by rfl
inductive Cn where
|asked|taken|answered|handed|hs|ts
instance:DecidableEq Cn:=λa b=>by
 cases a<;>cases b<;>first|exact isTrue rfl|exact isFalse (λh=>by cases h)
def Cn.key:Cn->Str
|.asked=>"asked"
|.taken=>"taken"
|.answered=>"answered"
|.handed=>"handed"
|.hs=>"hand sleeps"
|.ts=>"heart sleeps"
def j5:Bool->Str
|false=>"ask"
|true=>"answer"
def pk (g:Bool) (i:Int):PyData:=.tuple [.str (j5 g),.int i]
inductive Wr where
|c (k:Cn) (i:Int)
|p (g:Bool) (i nm wt:Int)
def Wr.key:Wr->PyData
|.c k _=>.str k.key
|.p g i _ _=>pk g i
def Wr.dat:Wr->PyData
|.c _ i=>.int i
|.p _ _ nm wt=>.tuple [.int nm,.int wt]
def Wr.Ok:Wr->Prop
|.c _ _=>True
|.p _ i nm _=>(0 <= i/\i < 8)/\0 <= nm/\nm < 9
def Wr.cnt (k:Cn):Wr->Option Int
|.c k' i=>if k'=k then some i else none
|.p _ _ _ _=>none
def Wr.plc (g:Bool) (i:Int):Wr->Option (Int × Int)
|.c _ _=>none
|.p g' i' nm wt=>if g'=g/\i'=i then some (nm,wt) else none
structure Mem where
 c:Cn->Int
 p:Bool->Int->Option (Int × Int)
def Mem.zero:Mem:=⟨λ_=>0,λ_ _=>none⟩
def Mem.put (m:Mem) (x:Wr):Mem:=⟨λk=>(x.cnt k).getD (m.c k),λg i=>(x.plc g i).or (m.p g i)⟩
def rdC (m:Mem) (row:List Wr) (k:Cn):Int:=(row.reverse.findSome? (Wr.cnt k)).getD (m.c k)
def rdP (m:Mem) (row:List Wr) (g:Bool) (i:Int):Option (Int × Int):=(row.reverse.findSome? (Wr.plc g i)).or (m.p g i)
theorem eL (m:Mem) (row:List Wr) (x:Wr) (k:Cn):rdC m (row++[x]) k=(x.cnt k).getD (rdC m row k):=by
 unfold rdC;rw[reverse_append];show (List.findSome? (Wr.cnt k) (x :: row.reverse)).getD (m.c k)=_;rw[findSome?_cons];cases Wr.cnt k x<;>rfl
theorem kP (m:Mem) (row:List Wr) (x:Wr) (g:Bool) (i:Int):rdP m (row++[x]) g i=(x.plc g i).or (rdP m row g i):=by
 unfold rdP;rw[reverse_append];show (List.findSome? (Wr.plc g i) (x :: row.reverse)).or (m.p g i)=_;rw[findSome?_cons];cases Wr.plc g i x<;>rfl
theorem xl (k:Cn):PyData.strOk k.key=true:=by cases k<;>decide +kernel
theorem GB (g:Bool):PyData.strOk (j5 g)=true:=by cases g<;>decide +kernel
theorem se {k k':Cn}(h:k.key=k'.key):k=k':=by
 cases k<;>cases k'<;>first|rfl|exact absurd h (by decide +kernel)
theorem En {g g':Bool}(h:j5 g=j5 g'):g=g':=by
 cases g<;>cases g'<;>first|rfl|exact absurd h (by decide +kernel)
theorem nP (g:Bool) (i:Int):MX.kd (pk g i)=true:=by
 show (PyData.strOk (j5 g) && (true && true))=true;rw[GB];rfl
theorem oW (k:Cn):MX.kd (.str k.key)=true:=xl k
theorem Wr.key_kd (x:Wr):MX.kd x.key=true:=by
 cases x with
|c k i=>exact oW k
|p g i nm wt=>exact nP g i
theorem Wr.dat_kd (x:Wr):MX.kd x.dat=true:=by cases x<;>rfl
theorem Fb {g g':Bool}{i i':Int}(h:pk g i=pk g' i'):g=g'/\i=i':=by
 injection h with h
 injection h with h1 h2
 injection h1 with h1
 injection h2 with h2 _
 injection h2 with h2
 exact⟨En h1,h2⟩
theorem lj {x:Wr}{d:PyData}(hd:MX.kd d=true):PyData.eqv x.key d=true ↔ x.key=d:=MX.eqv_iff _ _ x.key_kd hd
theorem Wr.cnt_some {x:Wr}{k:Cn}{i:Int}(h:x.cnt k=some i):x=.c k i:=by
 cases x with
|c k' j =>
  unfold Wr.cnt at h;dsimp only at h;split at h
  . rename_i e;cases e;cases h;rfl
  . cases h
|p=>cases h
theorem Wr.plc_some {x:Wr}{g:Bool}{i nm wt:Int}(h:x.plc g i=some (nm,wt)):x=.p g i nm wt:=by
 cases x with
|c=>cases h
|p g' j a b =>
  unfold Wr.plc at h;dsimp only at h;split at h
  . rename_i e;obtain⟨e1,e2⟩:=e;cases e1;cases e2;cases h;rfl
  . cases h
theorem Wr.cnt_none {x:Wr}{k:Cn}(h:x.cnt k=none):x.key≠.str k.key:=by
 intro e;cases x with
|c k' j =>
  have:=se (PyData.str.inj e);unfold Wr.cnt at h;dsimp only at h;rw[if_pos this]at h;cases h
|p=>cases e
theorem Wr.plc_none {x:Wr}{g:Bool}{i:Int}(h:x.plc g i=none):x.key≠pk g i:=by
 intro e;cases x with
|c=>cases e
|p g' j a b =>
  have:=Fb e;unfold Wr.plc at h;dsimp only at h;rw[if_pos this]at h;cases h
def WrR (H:Hp) (x:Wr) (q:PyData × V):Prop:=x.Ok/\q.1=x.key/\DV H x.dat q.2
theorem WrR.keep {H H':Hp}{x:Wr}{q:PyData × V}(h:WrR H x q) (ht:∀ b vs,H b=some (.tup vs)->H' b=some (.tup vs)):WrR H' x q:=⟨h.1,h.2.1,DV.keep ht _ _ x.dat_kd h.2.2⟩
def i3:List PyData:=[.str (Cn.key .asked),.str (Cn.key .taken),.str (Cn.key .answered),.str (Cn.key .handed),.str (Cn.key .hs),.str (Cn.key .ts),
 pk false 0,pk false 1,pk false 2,pk false 3,pk false 4,pk false 5,pk false 6,pk false 7,pk true 0,pk true 1,pk true 2,pk true 3,pk true 4,pk true 5,pk true 6,pk true 7]
theorem Wr.key_all {x:Wr}(h:x.Ok):x.key∈i3:=by
 cases x with
|c k i=>cases k<;>simp[Wr.key,i3]
|p g i a b =>
  have h':0 <= i/\i < 8:=h.1;have:i=0\/i=1\/i=2\/i=3\/i=4\/i=5\/i=6\/i=7:=by omega
  rcases this with rfl|rfl|rfl|rfl|rfl|rfl|rfl|rfl<;>cases g<;>simp[Wr.key,i3]
theorem jk {α:Type} [DecidableEq α]:∀ {l ks:List α},l.Nodup->(∀ a∈l,a∈ks)->l.length <= ks.length
|[],_,_,_=>zero_le _
|a :: l,ks,h,hs=>by
  have ha:=hs a mem_cons_self;have hn:=nodup_cons.mp h;have:=jk (l:=l) (ks:=ks.erase a) hn.2 λb hb=>(List.mem_erase_of_ne (λe=>hn.1 (by rw[<-e];exact hb))).mpr (hs b (mem_cons_of_mem _ hb))
  rw[List.length_erase_of_mem ha]at this;have h0:0 < ks.length:=List.length_pos_of_mem ha;rw[length_cons];omega
structure MemR (H:Hp) (M:List (PyData × V)) (m:Mem):Prop where
 c:∀ k:Cn,(cH M (.str k.key)).getD (.int 0)=.int (m.c k)
 p:∀ g i,(m.p g i=none/\cH M (pk g i)=none)\/∃ nm wt v,m.p g i=some (nm,wt)/\cH M (pk g i)=some v/\DV H (.tuple [.int nm,.int wt]) v
 ks:∀ q∈M,q.1∈i3
 ok:∀ g i nm wt,m.p g i=some (nm,wt)->0 <= nm/\nm < 9
theorem wW:∀ d∈i3,MX.kd d=true:=by
 intro d hd;simp only[i3,mem_cons,not_mem_nil,or_false]at hd;rcases hd with rfl|rfl|rfl|rfl|rfl|rfl|rfl|rfl|rfl|rfl|rfl|rfl|rfl|rfl|rfl|rfl|rfl|rfl|rfl|rfl|rfl|rfl<;>first|exact oW _|exact nP _ _
theorem MemR.kk {H:Hp}{M:List (PyData × V)}{m:Mem}(h:MemR H M m):KK M:=λq hq=>wW _ (h.ks q hq)
theorem MemR.zero {H:Hp}:MemR H [] Mem.zero:=⟨λ_=>rfl,λ_ _=>.inl ⟨rfl,rfl⟩,λ_ h=>(by cases h),λ_ _ _ _ h=>(by cases h)⟩
theorem MemR.keep {H H':Hp}{M:List (PyData × V)}{m:Mem}(h:MemR H M m) (ht:∀ b vs,H b=some (.tup vs)->H' b=some (.tup vs)):MemR H' M m :=
 ⟨h.c,λg i=>(h.p g i).imp id λ⟨nm,wt,v,a,b,c⟩=>⟨nm,wt,v,a,b,DV.keep ht _ _ rfl c⟩,h.ks,h.ok⟩
theorem Ey {M:List (PyData × V)}{k:PyData}{v:V}{K:List PyData}(h:∀ q∈M,q.1∈K) (hk:k∈K):∀ q∈ub M k v,q.1∈K:=by
 intro q hq;unfold ub at hq;split at hq
 . obtain⟨p,hp,e⟩:=mem_map.mp hq;have:=h p hp;rw[<-e];split<;>exact this
 . rcases mem_append.mp hq with z|z
   . exact h q z
   . rw[mem_singleton.mp z];exact hk
theorem MemR.put {H:Hp}{M:List (PyData × V)}{m:Mem}{x:Wr}{q:PyData × V}(h:MemR H M m) (hx:WrR H x q):MemR H (ub M q.1 q.2) (m.put x):=by
 obtain⟨ho,hk,hd⟩:=hx;refine⟨λk=>?_,λg i=>?_,Ey h.ks (by rw[hk];exact Wr.key_all ho),λg i nm wt e=>?_⟩
 . rw[hk,vp h.kk x.key_kd (oW k)];unfold Mem.put;dsimp only;cases e:x.cnt k with
  |some i =>
    have ex:=Wr.cnt_some e;subst ex;rw[if_pos (show PyData.eqv (Wr.key (.c k i)) (.str k.key)=true from cO (oW k))];exact hd
  |none =>
    rw[if_neg λz=>Wr.cnt_none e ((lj (oW k)).mp z)];exact h.c k
 . rw[hk,vp h.kk x.key_kd (nP g i)];unfold Mem.put;dsimp only;cases e:x.plc g i with
  |some nw =>
    have ex:=Wr.plc_some (nm:=nw.1) (wt:=nw.2) e;subst ex;rw[if_pos (show PyData.eqv (Wr.key (.p g i nw.1 nw.2)) (pk g i)=true from cO (nP g i))];exact .inr ⟨nw.1,nw.2,q.2,rfl,rfl,hd⟩
  |none =>
    rw[if_neg λz=>Wr.plc_none e ((lj (nP g i)).mp z)];exact h.p g i
 . have e':(x.plc g i).or (m.p g i)=some (nm,wt):=e;cases q:x.plc g i with
  |none=>rw[q]at e';exact h.ok g i nm wt e'
  |some nw =>
    rw[q]at e';cases e';have ex:=Wr.plc_some q;subst ex;exact ho.2
theorem Paired.rev {α β:Type}{F:α->β->Prop}:∀ {xs:List α}{ys:List β},Paired F xs ys->Paired F xs.reverse ys.reverse
|_,_,.nil=>.nil
|_,_,.cons r t=>by
  rw[List.reverse_cons,List.reverse_cons];exact Paired.snoc (Paired.rev t) r
theorem Cl {H:Hp}{k:Cn}:∀ {row:List Wr}{es:List (PyData × V)},Paired (WrR H) row es ->
 (es.find? λp=>PyData.eqv p.1 (.str k.key)).map (·.2)=(row.findSome? (Wr.cnt k)).map V.int
|_,_,.nil=>rfl
|x :: row,q :: es,.cons ⟨_,hk,hd⟩ t=>by
  rw[find?_cons,findSome?_cons];cases e:x.cnt k with
 |some i =>
   have ex:=Wr.cnt_some e;subst ex;have:PyData.eqv q.1 (.str k.key)=true:=by rw[hk];exact cO (oW k)
   rw[this];show some q.2=some (V.int i);exact congrArg some hd
 |none =>
   have:PyData.eqv q.1 (.str k.key)=false:=by
    rw[hk];cases z:PyData.eqv x.key (.str k.key) with
   |false=>rfl
   |true=>exact absurd ((lj (oW k)).mp z) (Wr.cnt_none e)
   rw[this];exact Cl t
theorem C9 {H:Hp}{g:Bool}{i:Int}:∀ {row:List Wr}{es:List (PyData × V)},Paired (WrR H) row es ->
 (row.findSome? (Wr.plc g i)=none/\(es.find? λp=>PyData.eqv p.1 (pk g i))=none)\/∃ nm wt q,row.findSome? (Wr.plc g i)=some (nm,wt)/\(es.find? λp=>PyData.eqv p.1 (pk g i))=some q/\DV H (.tuple [.int nm,.int wt]) q.2
|_,_,.nil=>.inl ⟨rfl,rfl⟩
|x :: row,q :: es,.cons ⟨_,hk,hd⟩ t=>by
  rw[find?_cons,findSome?_cons];cases e:x.plc g i with
 |some nw =>
   have ex:=Wr.plc_some (nm:=nw.1) (wt:=nw.2) e;subst ex;have:PyData.eqv q.1 (pk g i)=true:=by rw[hk];exact cO (nP g i)
   rw[this];exact .inr ⟨nw.1,nw.2,q,rfl,rfl,hd⟩
 |none =>
   have:PyData.eqv q.1 (pk g i)=false:=by
    rw[hk];cases z:PyData.eqv x.key (pk g i) with
   |false=>rfl
   |true=>exact absurd ((lj (nP g i)).mp z) (Wr.plc_none e)
   rw[this];exact C9 t
theorem cD {H:Hp}{M es:List (PyData × V)}{m:Mem}{row:List Wr}(h:MemR H M m) (r:Paired (WrR H) row es) (k:Cn):cC M es (.str k.key)=.int (rdC m row k):=by
 rw[vO];unfold AE rdC;rw[Cl (Paired.rev r)];cases row.reverse.findSome? (Wr.cnt k) with
|some i=>rfl
|none=>exact h.c k
theorem uT {H:Hp}{M es:List (PyData × V)}{m:Mem}{row:List Wr}(h:MemR H M m) (r:Paired (WrR H) row es) (g:Bool) (i:Int) :
 (rdP m row g i=none/\cC M es (pk g i)=.int 0)\/∃ nm wt c,rdP m row g i=some (nm,wt)/\cC M es (pk g i)=.ref c/\H c=some (.tup [.int nm,.int wt]):=by
 rw[vO];unfold AE rdP;have tup:∀ {nm wt:Int} {v:V},DV H (.tuple [.int nm,.int wt]) v->∃ c,v=.ref c/\H c=some (.tup [.int nm,.int wt]):=λ{nm wt v} h=>by
  obtain⟨c,vs,e,hc,v1,r1,e1,d1,v2,r2,e2,d2,e3⟩:=h;cases d1;cases d2;cases e3;subst e2 e1;exact⟨c,e,hc⟩
 rcases C9 (g:=g) (i:=i) (Paired.rev r) with⟨e1,e2⟩|⟨nm,wt,q,e1,e2,d⟩
 . rw[e1,e2];rcases h.p g i with⟨a,b⟩|⟨nm,wt,v,a,b,c⟩
   . rw[a,b];exact .inl ⟨rfl,rfl⟩
   . rw[a,b];obtain⟨c',rfl,hc⟩:=tup c;exact .inr ⟨nm,wt,c',rfl,rfl,hc⟩
 . rw[e1,e2];obtain⟨c',e,hc⟩:=tup d;exact .inr ⟨nm,wt,c',rfl,by show q.2=_;exact e,hc⟩
theorem zZ {H:Hp}{g:Bool}{i nm wt:Int}:∀ {row:List Wr}{es:List (PyData × V)},Paired (WrR H) row es->row.findSome? (Wr.plc g i)=some (nm,wt)->0 <= nm/\nm < 9
|_,_,.nil,h=>by cases h
|x :: row,_,.cons hx t,h=>by
  rw[findSome?_cons]at h;cases q:x.plc g i with
 |none=>rw[q]at h;exact zZ t h
 |some nw =>
   rw[q]at h;cases h;have ex:=Wr.plc_some q;subst ex;exact hx.1.2
theorem FG {H:Hp}{M es:List (PyData × V)}{m:Mem}{row:List Wr}(h:MemR H M m) (r:Paired (WrR H) row es) {g:Bool}{i nm wt:Int}(e:rdP m row g i=some (nm,wt)):0 <= nm/\nm < 9:=by
 unfold rdP at e;cases q:row.reverse.findSome? (Wr.plc g i) with
|none=>rw[q]at e;exact h.ok g i nm wt e
|some nw =>
  rw[q]at e;cases e;exact zZ (Paired.rev r) q
def StT (w:World) (C:Addr) (H:Hp) (sa:SA) (m:Mem) (rs:Bool->List Wr):Prop:=∃ M r,sa.At w C H M r/\MemR H M m/\∀ b,Paired (WrR H) (rs b) (r b)
section
variable {w:World}{C:Addr}{H H':Hp}{sa:SA}{m:Mem}{rs:Bool->List Wr}
theorem StT.keep (S:StT w C H sa m rs) (h:∀ c o,sa.own c->H c=some o->H' c=some o) (ht:∀ b vs,H b=some (.tup vs)->H' b=some (.tup vs)):StT w C H' sa m rs:=by
 obtain⟨M,r,S,R,P⟩:=S;exact⟨M,r,S.keep (λc o hc=>h c o (A3 hc)) ht,R.keep ht,λb=>Paired.mapP (P b) λ_ _ q=>q.keep ht⟩
theorem StT.same (S:StT w C H sa m rs) (h:bG H H'):StT w C H' sa m rs:=S.keep (λc o _=>h c o) λb vs=>h b _
theorem StT.there (S:StT w C H sa m rs) {c:Addr}(h:sa.own c):∃ o,H c=some o/\(∀ xs,o≠.tup xs):=by
 obtain⟨M,r,S,_⟩:=S;exact S.there h
theorem StT.ob (S:StT w C H sa m rs):∃ dx,H sa.x=some (.ins C dx (stF sa.hd sa.rl)):=by
 obtain⟨M,r,S,_⟩:=S;exact S.ob
theorem StT.names (S:StT w C H sa m rs) {b g:Bool}{i nm wt:Int}(e:rdP m (rs b) g i=some (nm,wt)):0 <= nm/\nm < 9:=by
 obtain⟨M,r,S,R,P⟩:=S;exact FG R (P b) e
theorem StT.small {M:List (PyData × V)}{r:Bool->List (PyData × V)}(S:sa.At w C H M r) (R:MemR H M m):M.length <= 22:=by
 obtain⟨es,ep,_,_,nd,_⟩:=S.me;have:=@jk PyData (λa b=>Classical.propDecidable (a=b)) _ i3 nd λd hd=>by
  obtain⟨q,hq,rfl⟩:=mem_map.mp hd;exact R.ks q hq
 rw[length_map]at this;exact this
end
theorem jj {α β:Type}{F:α->β->Prop}:∀ {xs:List α}{ys:List β}{xs':List α}{ys':List β},Paired F xs ys->Paired F xs' ys'->Paired F (xs++xs') (ys++ys')
|_,_,_,_,.nil,t=>t
|_,_,_,_,.cons r t,t'=>.cons r (jj t t')
theorem StT.grow {w:World}{C:Addr}{H H':Hp}{sa:SA}{m:Mem}{rs:Bool->List Wr}{M:List (PyData × V)}{r:Bool->List (PyData × V)}{b:Bool}{ws:List Wr}{es:List (PyData × V)}(R:MemR H M m) (P:∀ b,Paired (WrR H) (rs b) (r b)) (S2:sa.At w C H' M (ba r b (r b++es))) (ht:∀ c vs,H c=some (.tup vs)->H' c=some (.tup vs)) (hn:Paired (WrR H') ws es):StT w C H' sa m (ba rs b (rs b++ws)):=by
 refine⟨M,_,S2,R.keep ht,λc=>?_⟩;by_cases e:c=b
 . subst e;rw[aD,aD];exact jj (Paired.mapP (P c) λ_ _ q=>q.keep ht) hn
 . rw[bF e,bF e];exact Paired.mapP (P c) λ_ _ q=>q.keep ht
def az (p:RP) (m:Mem) (row:List Wr) (a b:Cn):Int:=(rdC m row a - rdC m row b) % (p.s * p.R)
def dl (p:RP) (m:Mem) (row:List Wr) (a:Cn):Wr:=.c a ((rdC m row a+1) % (p.s * p.R))
def lZ (p:RP) (m:Mem) (row:List Wr) (g:Bool) (a:Cn) (nm wt:Int):List Wr :=
 if p.e then [dl p m row a,.p g (rdC m row a % p.s) nm wt] else [.p g (rdC m row a % p.s) nm wt,dl p m row a]
theorem vC {H:Hp}{p:RP}{m:Mem}{row:List Wr}{g:Bool}{a:Cn}{nm wt:Int}{t:Addr}(hp:p.Ok) (hn:0 <= nm/\nm < 9) (ht:H t=some (.tup [.int nm,.int wt])):Paired (WrR H) (lZ p m row g a nm wt) (nK p (j5 g) a.key (rdC m row a) (.ref t)):=by
 have h1:WrR H (.p g (rdC m row a % p.s) nm wt) (.tuple [.str (j5 g),.int (rdC m row a % p.s)],.ref t):=by
  have a1:=emod_nonneg (rdC m row a) (show p.s≠0 by have:=hp.s0;omega);have a2:=emod_lt_of_pos (rdC m row a) hp.s0;have:=hp.s8;exact⟨⟨⟨a1,by omega⟩,hn⟩,rfl,⟨t,_,rfl,ht,_,_,rfl,rfl,_,_,rfl,rfl,rfl⟩⟩
 have h2:WrR H (dl p m row a) (.str a.key,.int ((rdC m row a+1) % (p.s * p.R))):=⟨trivial,rfl,rfl⟩
 unfold lZ nK;cases p.e with
|true=>exact .cons h2 (.cons h1 .nil)
|false=>exact .cons h1 (.cons h2 .nil)
structure LA where
 sd:Addr
 md:Addr
 rw:Addr
 l:Bool->Addr
 ud:Addr
 tk:Addr
section
variable {H:Hp}{la:LA}{p:RP}{n:Int}
end
section
variable {w:World}{H H':Hp}{la:LA}{p:RP}{n:Int}{m:Mem}{rs:Bool->List Wr}{un tk:List Int}
end
theorem lA (i:Int):∀ ns:List Int,inV (.int i) (ns.map V.int)=ns.contains i
|[]=>rfl
|n :: ns=>by
  have ih:=lA i ns;unfold inV at ih |-;rw[map_cons,any_cons,ih,contains_cons];congr 1;show eqV (.int n) (.int i)=(i == n)
  simp only[eqV];rw[Bool.eq_iff_iff,beq_iff_eq,beq_iff_eq];exact eq_comm
theorem aq {α:Type}{x:α}{xs:List α}:atI (x :: xs) 0=some x:=by
 unfold atI ixN;simp
def pH (n:Nat) (un:List Int):List Int:=((List.range n).map λ(k:Nat)=>(k:Int)).filter λk=>!un.contains k
theorem yp (n:Nat) (un:List Int):(pH n un).head?=bw n un:=by
 unfold pH bw;rw[List.head?_filter]
theorem x0 (j:Nat):((List.range (j+1)).map λ(k:Nat)=>(k:Int))=((List.range j).map λ(k:Nat)=>(k:Int))++[(j:Int)]:=by
 rw[List.range_succ,map_append];rfl
theorem z9 (j:Nat) (un:List Int):pH (j+1) un=if un.contains (j:Int) then pH j un else pH j un++[(j:Int)]:=by
 unfold pH;rw[x0,filter_append];have e:List.filter (λk=>!un.contains k) [(j:Int)]=if un.contains (j:Int) then [] else [(j:Int)]:=by
  rw[filter_cons,List.filter_nil];cases un.contains (j:Int)<;>rfl
 rw[e];cases un.contains (j:Int) with
|true=>rw[if_pos rfl,if_pos rfl,append_nil]
|false=>rfl
theorem oo {α β:Type}{F:α->β->Prop}:∀ {xs:List α}{ys:List β}{j:Nat}{y:β},Paired F xs ys->ys[j]?=some y->∃ x,xs[j]?=some x/\F x y
|_,_,_,_,.nil,e=>by simp at e
|_,_,0,_,.cons r _,e=>by simp at e;subst e;exact⟨_,rfl,r⟩
|_,_,j+1,_,.cons _ t,e=>by
  obtain⟨x,a,b⟩:=oo (j:=j) t (by simpa using e);exact⟨x,by simpa using a,b⟩
def KO (own:Addr->Prop) (H H':Hp):Prop:=∀ c o,¬ own c->H c=some o->H' c=some o
theorem KO.refl (own:Addr->Prop) (H:Hp):KO own H H:=λ_ _ _ e=>e
theorem KO.of_kp {own:Addr->Prop}{xs:List Addr}{H H':Hp}(k:Kp xs H H') (h:∀ c∈xs,own c):KO own H H':=λc o n e=>k c o (λm=>n (h c m)) e
theorem KO.of_same {own:Addr->Prop}{H H':Hp}(s:bG H H'):KO own H H':=λc o _ e=>s c o e
theorem KO.trans {own own':Addr->Prop}{H H1 H2:Hp}(a:KO own H H1) (b:KO own' H1 H2) (h:∀ c,own' c->own c\/H c=none):KO own H H2:=λc o n e=>b c o (λz=>by
 rcases h c z with y|y
 . exact n y
 . rw[y]at e;cases e) (a c o n e)
section
variable {w:World}{CH CT CR CS:Addr}{H H':Hp}{z:HA}{zt:TA'}{sa:SA}{la:LA}{p:RP}{n:Int}{m:Mem}{rs:Bool->List Wr}{un tk aw:List Int}{nn:Int}{st:Addr}
end
def scD:PyData->Bool
|.none=>true
|.bool _=>true
|.int _=>true
|.str _=>true
|_=>false
def flD:PyData->Bool
|.tuple ds=>ds.all scD
|d=>scD d
theorem DV.sc {H H':Hp}:∀ {d:PyData}{v:V},scD d=true->DV H d v->DV H' d v
|.none,_,_,h=>h
|.bool _,_,_,h=>h
|.int _,_,_,h=>h
|.str _,_,_,h=>h
|.list _,_,h,_=>by cases h
|.tuple _,_,h,_=>by cases h
|.dict _,_,h,_=>by cases h
theorem DVs.sc {H H':Hp}:∀ {ds:List PyData}{vs:List V},ds.all scD=true->DVs H ds vs->DVs H' ds vs
|[],_,_,h=>h
|d :: ds,_,h,⟨v,r,e,h1,h2⟩=>by
  rw[all_cons,and_eq_true]at h;exact⟨v,r,e,DV.sc h.1 h1,DVs.sc h.2 h2⟩
theorem DV.fl {H H':Hp}(ht:∀ b vs,H b=some (.tup vs)->H' b=some (.tup vs)):∀ {d:PyData}{v:V},flD d=true->DV H d v->DV H' d v
|.none,_,_,h=>h
|.bool _,_,_,h=>h
|.int _,_,_,h=>h
|.str _,_,_,h=>h
|.list _,_,h,_=>by cases h
|.tuple ds,_,h,⟨a,vs,e,ha,hv⟩=>⟨a,vs,e,ht _ _ ha,DVs.sc h hv⟩
|.dict _,_,h,_=>by cases h
def Nms (k:Int) (ns:List Int):Prop:=ns.Nodup/\∀ x∈ns,0 <= x/\x < k
theorem Nms.nil (k:Int):Nms k []:=⟨nodup_nil,λ_ h=>by cases h⟩
theorem Nms.len {k:Int}{ns:List Int}(h:Nms k ns) (hk:k <= 9):ns.length <= 9:=by
 have:=jk (l:=ns) (ks:=[0,1,2,3,4,5,6,7,8]) h.1 λx hx=>by
  have:=h.2 x hx;have:x=0\/x=1\/x=2\/x=3\/x=4\/x=5\/x=6\/x=7\/x=8:=by omega
  simp only[mem_cons,not_mem_nil,or_false];exact this
 exact this
theorem Nms.snoc {k x:Int}{ns:List Int}(h:Nms k ns) (hx:ns.contains x=false) (hb:0 <= x/\x < k):Nms k (ns++[x]):=by
 refine⟨?_,λy hy=>?_⟩
 . rw[List.nodup_append];refine⟨h.1,nodup_cons.mpr ⟨by simp,nodup_nil⟩,λa ha b hb' e=>?_⟩;rw[mem_singleton.mp hb']at e;rw[contains_eq_mem,decide_eq_false_iff_not]at hx;exact hx (e ▸ ha)
 . rcases mem_append.mp hy with z|z
   . exact h.2 y z
   . rw[mem_singleton.mp z];exact hb
theorem Nms.filter {k x:Int}{ns:List Int}(h:Nms k ns):Nms k (ns.filter λy=>decide (y≠x)) :=
 ⟨Pairwise.filter _ h.1,λy hy=>h.2 y (mem_filter.mp hy).1⟩
theorem Nms.next {k x:Int}{ns:List Int}(h:Nms k ns) (hb:0 <= x/\x < k):Nms k (gM ns x):=by
 unfold gM;cases e:ns.contains x with
|true=>exact h
|false=>exact h.snoc e hb
theorem Nms.erase {k x:Int}{ns:List Int}(h:Nms k ns):Nms k (ns.erase x) :=
 ⟨Nodup.erase x h.1,λy hy=>h.2 y (List.mem_of_mem_erase hy)⟩
theorem Nms.erase_eq {k x:Int}{ns:List Int}(h:Nms k ns):ns.erase x=ns.filter λy=>decide (y≠x):=by
 rw[h.1.erase_eq_filter];refine List.filter_congr λy _=>?_
 by_cases e:y=x
 . subst e;simp
 . simp[e]
inductive Hist (g:Bool) (a f:Cn) (s N:Int):List Wr->List (Int × Int)->Nat->Nat->Prop where
|nil:Hist g a f s N [] [] 0 0
|place {W A na nf} (nm wt:Int) (h:Hist g a f s N W A na nf) (e:na=A.length):Hist g a f s N (W++[.p g ((A.length:Int) % s) nm wt]) (A++[(nm,wt)]) na nf
|laid {W A na nf} (h:Hist g a f s N W A na nf) (e:na+1=A.length):Hist g a f s N (W++[.c a (((na+1:Nat):Int) % N)]) A (na+1) nf
|fetched {W A na nf} (h:Hist g a f s N W A na nf):Hist g a f s N (W++[.c f (((nf+1:Nat):Int) % N)]) A na (nf+1)
section
variable {g:Bool}{a f:Cn}{s N:Int}{W:List Wr}{A:List (Int × Int)}{na nf:Nat}
theorem Hist.le (h:Hist g a f s N W A na nf):na <= A.length/\A.length <= na+1:=by
 induction h with
|nil=>exact⟨Nat.le_refl _,by show 0 <= 1;decide⟩
|place nm wt h e ih=>rw[List.length_append];show _ <= _+1/\_+1 <= _;omega
|laid h e ih=>omega
|fetched h ih=>exact ih
theorem Hist.cA (h:Hist g a f s N W A na nf) (haf:a≠f):rdC Mem.zero W a=(na:Int) % N:=by
 induction h with
|nil=>show (0:Int)=0 % N;simp
|place nm wt h e ih=>rw[eL];exact ih
|laid h e ih=>rw[eL];show (if a=a then some _ else none).getD _=_;rw[if_pos rfl];rfl
|fetched h ih=>rw[eL];show (if f=a then some _ else none).getD _=_;rw[if_neg λy=>haf y.symm];exact ih
theorem Hist.cF (h:Hist g a f s N W A na nf) (haf:a≠f):rdC Mem.zero W f=(nf:Int) % N:=by
 induction h with
|nil=>show (0:Int)=0 % N;simp
|place nm wt h e ih=>rw[eL];exact ih
|laid h e ih=>rw[eL];show (if a=f then some _ else none).getD _=_;rw[if_neg haf];exact ih
|fetched h ih=>rw[eL];show (if f=f then some _ else none).getD _=_;rw[if_pos rfl];rfl
theorem Hist.pl (h:Hist g a f s N W A na nf) (hs:0 < s):∀ k:Nat,k < A.length->(A.length:Int) <= k+s->rdP Mem.zero W g ((k:Int) % s)=A[k]?:=by
 induction h with
|nil=>intro k hk;cases hk
|place nm wt h e ih =>
  rename_i W A na nf;intro k hk hl;rw[kP];rw[List.length_append]at hk hl;have hl':((A.length:Int)+1) <= k+s:=hl;have hk':k < A.length+1:=hk;show (if g=g/\(A.length:Int) % s=(k:Int) % s then some (nm,wt) else none).or _=_;by_cases y:k=A.length
  . rw[if_pos ⟨rfl,by rw[y]⟩,y];show some (nm,wt)=_;simp
  . have hlt:k < A.length:=by omega
    rw[if_neg ?_]
    . show Option.or none _=_;rw[Option.none_or,ih k hlt (by omega),getElem?_append_left hlt]
    . rintro⟨_,q⟩;have d:((A.length:Int) - k) % s=0:=Int.emod_eq_emod_iff_emod_sub_eq_zero.mp q;have d1:((A.length:Int) - k) < s:=by omega
      rw[Int.emod_eq_of_lt (by omega) d1]at d;omega
|laid h e ih=>intro k hk hl;rw[kP];exact ih k hk hl
|fetched h ih=>intro k hk hl;rw[kP];exact ih k hk hl
theorem Hist.pre (h:Hist g a f s N W A na nf):∀ d:Nat,∃ A' na' nf',Hist g a f s N (W.take d) A' na' nf'/\A' <+: A/\na' <= na/\nf' <= nf:=by
 induction h with
|nil=>intro d;exact⟨[],0,0,by rw[take_nil];exact .nil,prefix_refl _,Nat.le_refl _,Nat.le_refl _⟩
|place nm wt h e ih =>
  rename_i W A na nf;intro d;by_cases hd:d <= W.length
  . obtain⟨A',na',nf',q,q1,q2,q3⟩:=ih d;exact⟨A',na',nf',by rw[take_append_of_le_length hd];exact q,q1.trans (prefix_append _ _),q2,q3⟩
  . exact⟨_,_,_,by rw[take_of_length_le (by rw[List.length_append];show _+1 <= d;omega)];exact .place nm wt h e,prefix_refl _,Nat.le_refl _,Nat.le_refl _⟩
|laid h e ih =>
  rename_i W A na nf;intro d;by_cases hd:d <= W.length
  . obtain⟨A',na',nf',q,q1,q2,q3⟩:=ih d;exact⟨A',na',nf',by rw[take_append_of_le_length hd];exact q,q1,by omega,q3⟩
  . exact⟨_,_,_,by rw[take_of_length_le (by rw[List.length_append];show _+1 <= d;omega)];exact .laid h e,prefix_refl _,Nat.le_refl _,Nat.le_refl _⟩
|fetched h ih =>
  rename_i W A na nf;intro d;by_cases hd:d <= W.length
  . obtain⟨A',na',nf',q,q1,q2,q3⟩:=ih d;exact⟨A',na',nf',by rw[take_append_of_le_length hd];exact q,q1,q2,by omega⟩
  . exact⟨_,_,_,by rw[take_of_length_le (by rw[List.length_append];show _+1 <= d;omega)];exact .fetched h,prefix_refl _,Nat.le_refl _,Nat.le_refl _⟩
end
theorem CQ (m:Mem) (X Y:List Wr) (k:Cn):rdC m (X++Y) k=(Y.reverse.findSome? (Wr.cnt k)).getD (rdC m X k):=by
 unfold rdC;rw[reverse_append,List.findSome?_append];cases Y.reverse.findSome? (Wr.cnt k)<;>rfl
theorem Ec (m:Mem) (X Y:List Wr) (g:Bool) (i:Int):rdP m (X++Y) g i=(Y.reverse.findSome? (Wr.plc g i)).or (rdP m X g i):=by
 unfold rdP;rw[reverse_append,List.findSome?_append];cases Y.reverse.findSome? (Wr.plc g i)<;>rfl
theorem rA {m:Mem}{W:List Wr}{d:Nat}{k:Cn}(h:m.c k=rdC Mem.zero (W.take d) k):rdC m (W.drop d) k=rdC Mem.zero W k:=by
 have e:rdC Mem.zero W k=rdC Mem.zero (W.take d++W.drop d) k:=by rw[take_append_drop]
 rw[e,CQ,<-h];rfl
theorem mJ {m:Mem}{k:Cn}:∀ {row:List Wr},(∀ x∈row,x.cnt k=none)->rdC m row k=m.c k:=λ{row} h=>by
 unfold rdC;rw[List.findSome?_eq_none_iff.mpr λx hx=>h x (List.mem_reverse.mp hx)];rfl
theorem ve {m:Mem}{g:Bool}{i:Int}:∀ {row:List Wr},(∀ x∈row,x.plc g i=none)->rdP m row g i=m.p g i:=λ{row} h=>by
 unfold rdP;rw[List.findSome?_eq_none_iff.mpr λx hx=>h x (List.mem_reverse.mp hx)];simp
def isC (k:Cn) (x:Wr):Bool:=(x.cnt k).isSome
section
variable {g:Bool}{a f:Cn}{s N:Int}{W:List Wr}{A:List (Int × Int)}{na nf:Nat}
theorem Hist.nA (h:Hist g a f s N W A na nf) (haf:a≠f):(W.filter (isC a)).length=na:=by
 induction h with
|nil=>rfl
|place nm wt h e ih=>rw[filter_append,List.length_append,ih];rfl
|laid h e ih =>
  rw[filter_append,List.length_append,ih];show _+(List.filter (isC a) [.c a _]).length=_;rw[filter_cons,if_pos (by show (if a=a then some _ else none).isSome=true;rw[if_pos rfl];rfl)];rfl
|fetched h ih =>
  rw[filter_append,List.length_append,ih];show _+(List.filter (isC a) [.c f _]).length=_;rw[filter_cons,if_neg (by show ¬ (if f=a then some _ else none).isSome=true;rw[if_neg λy=>haf y.symm];decide)];rfl
theorem Hist.nF (h:Hist g a f s N W A na nf) (haf:a≠f):(W.filter (isC f)).length=nf:=by
 induction h with
|nil=>rfl
|place nm wt h e ih=>rw[filter_append,List.length_append,ih];rfl
|laid h e ih =>
  rw[filter_append,List.length_append,ih];show _+(List.filter (isC f) [.c a _]).length=_;rw[filter_cons,if_neg (by show ¬ (if a=f then some _ else none).isSome=true;rw[if_neg haf];decide)];rfl
|fetched h ih =>
  rw[filter_append,List.length_append,ih];show _+(List.filter (isC f) [.c f _]).length=_;rw[filter_cons,if_pos (by show (if f=f then some _ else none).isSome=true;rw[if_pos rfl];rfl)];rfl
theorem Hist.only (h:Hist g a f s N W A na nf):∀ x∈W,(∃ i nm wt,x=.p g i nm wt)\/(∃ i,x=.c a i)\/∃ i,x=.c f i:=by
 induction h with
|nil=>intro x hx;cases hx
|place nm wt h e ih =>
  intro x hx;rcases mem_append.mp hx with y|y
  . exact ih x y
  . exact .inl ⟨_,_,_,mem_singleton.mp y⟩
|laid h e ih =>
  intro x hx;rcases mem_append.mp hx with y|y
  . exact ih x y
  . exact .inr (.inl ⟨_,mem_singleton.mp y⟩)
|fetched h ih =>
  intro x hx;rcases mem_append.mp hx with y|y
  . exact ih x y
  . exact .inr (.inr ⟨_,mem_singleton.mp y⟩)
end
structure Two (s R:Int) (m:Mem) (rs:Bool->List Wr) (A B:List (Int × Int)) (T Hd:Nat) (Wf Wt:List Wr) (df dt:Nat) (A' B':List (Int × Int)) (a' h' b' t':Nat):Prop where
 hf:Hist false .asked .handed s (s * R) Wf A A.length Hd
 ht:Hist true .answered .taken s (s * R) Wt B B.length T
 pf:Hist false .asked .handed s (s * R) (Wf.take df) A' a' h'
 pt:Hist true .answered .taken s (s * R) (Wt.take dt) B' b' t'
 af:A' <+: A
 bt:B' <+: B
 rf:rs false=Wf.drop df
 rt:rs true=Wt.drop dt
 ma:m.c .asked=rdC Mem.zero (Wf.take df) .asked
 mh:m.c .handed=rdC Mem.zero (Wf.take df) .handed
 mp:∀ i,m.p false i=rdP Mem.zero (Wf.take df) false i
 mb:m.c .answered=rdC Mem.zero (Wt.take dt) .answered
 mt:m.c .taken=rdC Mem.zero (Wt.take dt) .taken
 mq:∀ i,m.p true i=rdP Mem.zero (Wt.take dt) true i
 la:a' <= A.length
 lh:h' <= Hd
 lb:b' <= B.length
 lt:t' <= T
 ta:T <= a'
 hb:Hd <= b'
 sa:(A.length:Int) <= t'+s
 sb:(B.length:Int) <= h'+s
 xf:df <= Wf.length
 xt:dt <= Wt.length
theorem mQ {s R:Int}{x y:Nat}(hs:0 < s) (hR:2 <= R) (h1:y <= x) (h2:(x:Int) <= y+s):((x:Int) % (s * R) - (y:Int) % (s * R)) % (s * R)=(x:Int) - y:=by
 have hN:s < s * R:=by
  have:=Int.mul_le_mul_of_nonneg_left hR (Int.le_of_lt hs);omega
 rw[<-Int.sub_emod];exact Int.emod_eq_of_lt (by omega) (by omega)
section
variable {s R:Int}{m:Mem}{rs:Bool->List Wr}{A B:List (Int × Int)}{T Hd:Nat}{Wf Wt:List Wr}{df dt:Nat}{A' B':List (Int × Int)}{a' h' b' t':Nat}
theorem Two.noT (t:Two s R m rs A B T Hd Wf Wt df dt A' B' a' h' b' t'):∀ x∈rs true,x.cnt .asked=none/\x.cnt .handed=none/\∀ i,x.plc false i=none:=λx hx=>by
 rw[t.rt]at hx;rcases t.ht.only x (List.mem_of_mem_drop hx) with⟨i,nm,wt,rfl⟩|⟨i,rfl⟩|⟨i,rfl⟩
 . exact⟨rfl,rfl,λj=>by unfold Wr.plc;dsimp only;rw[if_neg (by rintro⟨q,_⟩;cases q)]⟩
 . exact⟨rfl,rfl,λj=>rfl⟩
 . exact⟨rfl,rfl,λj=>rfl⟩
theorem Two.noF (t:Two s R m rs A B T Hd Wf Wt df dt A' B' a' h' b' t'):∀ x∈rs false,x.cnt .answered=none/\x.cnt .taken=none/\∀ i,x.plc true i=none:=λx hx=>by
 rw[t.rf]at hx;rcases t.hf.only x (List.mem_of_mem_drop hx) with⟨i,nm,wt,rfl⟩|⟨i,rfl⟩|⟨i,rfl⟩
 . exact⟨rfl,rfl,λj=>by unfold Wr.plc;dsimp only;rw[if_neg (by rintro⟨q,_⟩;cases q)]⟩
 . exact⟨rfl,rfl,λj=>rfl⟩
 . exact⟨rfl,rfl,λj=>rfl⟩
theorem Two.reads (t:Two s R m rs A B T Hd Wf Wt df dt A' B' a' h' b' t') :
 (rdC m (rs false) .asked=(A.length:Int) % (s * R)/\rdC m (rs false) .handed=(Hd:Int) % (s * R)/\rdC m (rs false) .taken=(t':Int) % (s * R)/\rdC m (rs false) .answered=(b':Int) % (s * R)) /\
 (rdC m (rs true) .asked=(a':Int) % (s * R)/\rdC m (rs true) .handed=(h':Int) % (s * R)/\rdC m (rs true) .taken=(T:Int) % (s * R)/\rdC m (rs true) .answered=(B.length:Int) % (s * R)):=by
 refine⟨⟨?_,?_,?_,?_⟩,?_,?_,?_,?_⟩
 . rw[t.rf,rA t.ma];exact t.hf.cA (by decide)
 . rw[t.rf,rA t.mh];exact t.hf.cF (by decide)
 . rw[mJ λx hx=>(t.noF x hx).2.1,t.mt];exact t.pt.cF (by decide)
 . rw[mJ λx hx=>(t.noF x hx).1,t.mb];exact t.pt.cA (by decide)
 . rw[mJ λx hx=>(t.noT x hx).1,t.ma];exact t.pf.cA (by decide)
 . rw[mJ λx hx=>(t.noT x hx).2.1,t.mh];exact t.pf.cF (by decide)
 . rw[t.rt,rA t.mt];exact t.ht.cF (by decide)
 . rw[t.rt,rA t.mb];exact t.ht.cA (by decide)
theorem Two.ask (t:Two s R m rs A B T Hd Wf Wt df dt A' B' a' h' b' t') (hs:0 < s) (h:T < a'):rdP m (rs true) false ((T:Int) % (s * R) % s)=A[T]?:=by
 rw[Int.emod_emod_of_dvd _ (dvd_mul_right s R),ve λx hx=>(t.noT x hx).2.2 _,t.mp];have l1:=t.pf.le.1;have l2:=t.af.length_le;have l3:=t.sa;have l4:=t.lt;rw[t.pf.pl hs T (by omega) (by omega)];obtain⟨X,e⟩:=t.af;rw[<-e,getElem?_append_left (by omega)]
theorem Two.answer (t:Two s R m rs A B T Hd Wf Wt df dt A' B' a' h' b' t') (hs:0 < s) (h:Hd < b'):rdP m (rs false) true ((Hd:Int) % (s * R) % s)=B[Hd]?:=by
 rw[Int.emod_emod_of_dvd _ (dvd_mul_right s R),ve λx hx=>(t.noF x hx).2.2 _,t.mq];have l1:=t.pt.le.1;have l2:=t.bt.length_le;have l3:=t.sb;have l4:=t.lh;rw[t.pt.pl hs Hd (by omega) (by omega)];obtain⟨X,e⟩:=t.bt;rw[<-e,getElem?_append_left (by omega)]
theorem qP (x:Nat) (N:Int):((x:Int) % N+1) % N=((x+1:Nat):Int) % N:=by
 rw[Int.emod_add_emod];rfl
theorem Two.asked (t:Two s R m rs A B T Hd Wf Wt df dt A' B' a' h' b' t') (hl:(A.length:Int) < t'+s) (nm wt:Int):∃ W,Two s R m (ba rs false (rs false++lZ ⟨s,R,false⟩ m (rs false) false .asked nm wt)) (A++[(nm,wt)]) B T Hd W Wt df dt A' B' a' h' b' t':=by
 have e1:=t.reads.1.1;have el:lZ ⟨s,R,false⟩ m (rs false) false .asked nm wt=[.p false ((A.length:Int) % s) nm wt,.c .asked (((A.length+1:Nat):Int) % (s * R))]:=by
  unfold lZ dl;rw[e1];show [Wr.p false ((A.length:Int) % (s * R) % s) nm wt,.c .asked (((A.length:Int) % (s * R)+1) % (s * R))]=_;rw[Int.emod_emod_of_dvd _ (dvd_mul_right s R),qP]
 rw[el];have h1:=(t.hf.place nm wt rfl).laid (by rw[List.length_append];rfl);rw[List.append_assoc]at h1;have hlen:(A++[(nm,wt)]).length=A.length+1:=by rw[List.length_append];rfl
 refine⟨_,⟨by rw[hlen];exact h1,t.ht,by rw[take_append_of_le_length t.xf];exact t.pf,t.pt,t.af.trans (prefix_append _ _),t.bt,?_,by rw[bF (by decide)];exact t.rt,by rw[take_append_of_le_length t.xf];exact t.ma,by rw[take_append_of_le_length t.xf];exact t.mh,λi=>by rw[take_append_of_le_length t.xf];exact t.mp i,t.mb,t.mt,t.mq,by rw[hlen];have:=t.la;omega,t.lh,t.lb,t.lt,t.ta,t.hb,by rw[hlen];omega,t.sb,by rw[List.length_append];have:=t.xf;omega,t.xt⟩⟩;rw[aD,t.rf,drop_append_of_le_length t.xf];rfl
theorem Two.drainF (t:Two s R m rs A B T Hd Wf Wt df dt A' B' a' h' b' t') {x:Wr}{rest:List Wr}(e:rs false=x :: rest):∃ A2 a2 h2,a' <= a2/\h' <= h2/\Two s R (m.put x) (ba rs false rest) A B T Hd Wf Wt (df+1) dt A2 B' a2 h2 b' t':=by
 have hx:=t.rf.symm.trans e;have hlt:df < Wf.length:=by
  have:=congrArg List.length hx;rw[length_drop,length_cons]at this;omega
 have ht:Wf.take (df+1)=Wf.take df++[x]:=by
  have g:Wf[df]?=some x:=by
   have:=congrArg head? hx;rw[List.head?_drop]at this;exact this
  rw[take_succ,g];rfl
 have hr:Wf.drop (df+1)=rest:=by
  rw[<-List.drop_drop,hx];rfl
 obtain⟨A2,a2,h2,q,q1,q2,q3⟩:=t.hf.pre (df+1);have n1:=t.pf.nA (by decide);have n2:=t.pf.nF (by decide);have n3:=q.nA (by decide);have n4:=q.nF (by decide);rw[ht,filter_append,List.length_append]at n3 n4;have ga:a' <= a2:=by omega
 have gh:h' <= h2:=by omega
 have ox:(∃ i nm wt,x=.p false i nm wt)\/(∃ i,x=.c .asked i)\/∃ i,x=.c .handed i:=t.hf.only x (List.mem_of_mem_drop (by rw[hx];exact mem_cons_self));have oth:x.cnt .answered=none/\x.cnt .taken=none/\∀ i,x.plc true i=none:=t.noF x (by rw[e];exact mem_cons_self);refine⟨A2,a2,h2,ga,gh,⟨t.hf,t.ht,q,t.pt,q1,t.bt,by rw[aD];exact hr.symm,by rw[bF (by decide)];exact t.rt,?_,?_,λi=>?_,?_,?_,λi=>?_,by have:=q2;omega,q3,t.lb,t.lt,by have:=t.ta;omega,t.hb,t.sa,by have:=t.sb;omega,hlt,t.xt⟩⟩
 . rw[ht,eL,<-t.ma];rfl
 . rw[ht,eL,<-t.mh];rfl
 . rw[ht,kP,<-t.mp];rfl
 . rw[<-t.mb];show (x.cnt .answered).getD _=_;rw[oth.1];rfl
 . rw[<-t.mt];show (x.cnt .taken).getD _=_;rw[oth.2.1];rfl
 . rw[<-t.mq i];show (x.plc true i).or _=_;rw[oth.2.2 i];rfl
theorem Two.collected (t:Two s R m rs A B T Hd Wf Wt df dt A' B' a' h' b' t') (hl:Hd < b'):∃ W,Two s R m (ba rs false (rs false++[dl ⟨s,R,false⟩ m (rs false) .handed])) A B T (Hd+1) W Wt df dt A' B' a' h' b' t':=by
 have e1:=t.reads.1.2.1;have el:dl ⟨s,R,false⟩ m (rs false) .handed=.c .handed (((Hd+1:Nat):Int) % (s * R)):=by
  unfold dl;rw[e1];show Wr.c .handed (((Hd:Int) % (s * R)+1) % (s * R))=_;rw[qP]
 rw[el];refine⟨_,⟨t.hf.fetched,t.ht,by rw[take_append_of_le_length t.xf];exact t.pf,t.pt,t.af,t.bt,?_,by rw[bF (by decide)];exact t.rt,by rw[take_append_of_le_length t.xf];exact t.ma,by rw[take_append_of_le_length t.xf];exact t.mh,λi=>by rw[take_append_of_le_length t.xf];exact t.mp i,t.mb,t.mt,t.mq,t.la,by have:=t.lh;omega,t.lb,t.lt,t.ta,hl,t.sa,t.sb,by rw[List.length_append];have:=t.xf;omega,t.xt⟩⟩;rw[aD,t.rf,drop_append_of_le_length t.xf]
theorem Two.took (t:Two s R m rs A B T Hd Wf Wt df dt A' B' a' h' b' t') (hl:T < a'):∃ W,Two s R m (ba rs true (rs true++[dl ⟨s,R,false⟩ m (rs true) .taken])) A B (T+1) Hd Wf W df dt A' B' a' h' b' t':=by
 have e1:=t.reads.2.2.2.1;have el:dl ⟨s,R,false⟩ m (rs true) .taken=.c .taken (((T+1:Nat):Int) % (s * R)):=by
  unfold dl;rw[e1];show Wr.c .taken (((T:Int) % (s * R)+1) % (s * R))=_;rw[qP]
 rw[el];refine⟨_,⟨t.hf,t.ht.fetched,t.pf,by rw[take_append_of_le_length t.xt];exact t.pt,t.af,t.bt,by rw[bF (by decide)];exact t.rf,?_,t.ma,t.mh,t.mp,by rw[take_append_of_le_length t.xt];exact t.mb,by rw[take_append_of_le_length t.xt];exact t.mt,λi=>by rw[take_append_of_le_length t.xt];exact t.mq i,t.la,t.lh,t.lb,by have:=t.lt;omega,hl,t.hb,t.sa,t.sb,t.xf,by rw[List.length_append];have:=t.xt;omega⟩⟩;rw[aD,t.rt,drop_append_of_le_length t.xt]
theorem Two.answered (t:Two s R m rs A B T Hd Wf Wt df dt A' B' a' h' b' t') (hl:(B.length:Int) < h'+s) (nm wt:Int):∃ W,Two s R m (ba rs true (rs true++lZ ⟨s,R,false⟩ m (rs true) true .answered nm wt)) A (B++[(nm,wt)]) T Hd Wf W df dt A' B' a' h' b' t':=by
 have e1:=t.reads.2.2.2.2;have el:lZ ⟨s,R,false⟩ m (rs true) true .answered nm wt=[.p true ((B.length:Int) % s) nm wt,.c .answered (((B.length+1:Nat):Int) % (s * R))]:=by
  unfold lZ dl;rw[e1];show [Wr.p true ((B.length:Int) % (s * R) % s) nm wt,.c .answered (((B.length:Int) % (s * R)+1) % (s * R))]=_;rw[Int.emod_emod_of_dvd _ (dvd_mul_right s R),qP]
 rw[el];have h1:=(t.ht.place nm wt rfl).laid (by rw[List.length_append];rfl);rw[List.append_assoc]at h1;have hlen:(B++[(nm,wt)]).length=B.length+1:=by rw[List.length_append];rfl
 refine⟨_,⟨t.hf,by rw[hlen];exact h1,t.pf,by rw[take_append_of_le_length t.xt];exact t.pt,t.af,t.bt.trans (prefix_append _ _),by rw[bF (by decide)];exact t.rf,?_,t.ma,t.mh,t.mp,by rw[take_append_of_le_length t.xt];exact t.mb,by rw[take_append_of_le_length t.xt];exact t.mt,λi=>by rw[take_append_of_le_length t.xt];exact t.mq i,t.la,t.lh,by rw[hlen];have:=t.lb;omega,t.lt,t.ta,t.hb,t.sa,by rw[hlen];omega,t.xf,by rw[List.length_append];have:=t.xt;omega⟩⟩;rw[aD,t.rt,drop_append_of_le_length t.xt];rfl
theorem Two.drainT (t:Two s R m rs A B T Hd Wf Wt df dt A' B' a' h' b' t') {x:Wr}{rest:List Wr}(e:rs true=x :: rest):∃ B2 b2 t2,b' <= b2/\t' <= t2/\Two s R (m.put x) (ba rs true rest) A B T Hd Wf Wt df (dt+1) A' B2 a' h' b2 t2:=by
 have hx:=t.rt.symm.trans e;have hlt:dt < Wt.length:=by
  have:=congrArg List.length hx;rw[length_drop,length_cons]at this;omega
 have ht:Wt.take (dt+1)=Wt.take dt++[x]:=by
  have g:Wt[dt]?=some x:=by
   have:=congrArg head? hx;rw[List.head?_drop]at this;exact this
  rw[take_succ,g];rfl
 have hr:Wt.drop (dt+1)=rest:=by
  rw[<-List.drop_drop,hx];rfl
 obtain⟨B2,b2,t2,q,q1,q2,q3⟩:=t.ht.pre (dt+1);have n1:=t.pt.nA (by decide);have n2:=t.pt.nF (by decide);have n3:=q.nA (by decide);have n4:=q.nF (by decide);rw[ht,filter_append,List.length_append]at n3 n4;have gb:b' <= b2:=by omega
 have gt:t' <= t2:=by omega
 have oth:x.cnt .asked=none/\x.cnt .handed=none/\∀ i,x.plc false i=none:=t.noT x (by rw[e];exact mem_cons_self);refine⟨B2,b2,t2,gb,gt,⟨t.hf,t.ht,t.pf,q,t.af,q1,by rw[bF (by decide)];exact t.rf,by rw[aD];exact hr.symm,?_,?_,λi=>?_,?_,?_,λi=>?_,t.la,t.lh,by have:=q2;omega,q3,t.ta,by have:=t.hb;omega,by have:=t.sa;omega,t.sb,t.xf,hlt⟩⟩
 . rw[<-t.ma];show (x.cnt .asked).getD _=_;rw[oth.1];rfl
 . rw[<-t.mh];show (x.cnt .handed).getD _=_;rw[oth.2.1];rfl
 . rw[<-t.mp i];show (x.plc false i).or _=_;rw[oth.2.2 i];rfl
 . rw[ht,eL,<-t.mb];rfl
 . rw[ht,eL,<-t.mt];rfl
 . rw[ht,kP,<-t.mq];rfl
theorem Two.waits (t:Two s R m rs A B T Hd Wf Wt df dt A' B' a' h' b' t'):(((rs false).filter (isC .asked)).length=A.length - a'/\((rs false).filter (isC .handed)).length=Hd - h')/\((rs true).filter (isC .answered)).length=B.length - b'/\((rs true).filter (isC .taken)).length=T - t':=by
 have spl:∀ (W:List Wr) (d:Nat) (k:Cn),(W.filter (isC k)).length=((W.take d).filter (isC k)).length+((W.drop d).filter (isC k)).length:=λW d k=>by
  rw[<-List.length_append,<-filter_append,take_append_drop]
 have x1:=spl Wf df .asked;have x2:=spl Wf df .handed;have x3:=spl Wt dt .answered;have x4:=spl Wt dt .taken;rw[t.hf.nA (by decide),t.pf.nA (by decide),<-t.rf]at x1;rw[t.hf.nF (by decide),t.pf.nF (by decide),<-t.rf]at x2;rw[t.ht.nA (by decide),t.pt.nA (by decide),<-t.rt]at x3;rw[t.ht.nF (by decide),t.pt.nF (by decide),<-t.rt]at x4;omega
theorem Two.zero {s R:Int}(hs:0 < s):Two s R Mem.zero (λ_=>[]) [] [] 0 0 [] [] 0 0 [] [] 0 0 0 0 :=
 ⟨.nil,.nil,.nil,.nil,prefix_refl _,prefix_refl _,rfl,rfl,rfl,rfl,λ_=>rfl,rfl,rfl,λ_=>rfl,Nat.le_refl _,Nat.le_refl _,Nat.le_refl _,Nat.le_refl _,Nat.le_refl _,Nat.le_refl _,by show (0:Int) <= 0+s;omega,by show (0:Int) <= 0+s;omega,Nat.le_refl _,Nat.le_refl _⟩
end
structure M8 (s R:Int) (n:Nat) (m:Mem) (rs:Bool->List Wr) (un tk:List Int) (A B:List (Int × Int)) (T Hd:Nat):Prop where
 two:∃ Wf Wt df dt A' B' a' h' b' t',Two s R m rs A B T Hd Wf Wt df dt A' B' a' h' b' t'
 pm:un.Perm ((A.drop T).map (·.1)++(tk++(B.drop Hd).map (·.1)))
 bt:B.length+tk.length=T
 und:Nms n un
 tkd:Nms 9 tk
 n9:n <= 9
 s0:0 < s
 s8:s <= 8
 R2:2 <= R
def nC (k:Cn) (row:List Wr):Nat:=(row.filter (isC k)).length
section
variable {s R:Int}{n:Nat}{m:Mem}{rs:Bool->List Wr}{un tk:List Int}{A B:List (Int × Int)}{T Hd:Nat}
theorem M8.TA (M:M8 s R n m rs un tk A B T Hd):T <= A.length/\Hd <= B.length:=by
 obtain⟨Wf,Wt,df,dt,A',B',a',h',b',t',t⟩:=M.two;have:=t.ta;have:=t.la;have:=t.hb;have:=t.lb;omega
theorem M8.full (M:M8 s R n m rs un tk A B T Hd):az ⟨s,R,false⟩ m (rs false) .asked .taken=s ↔ (A.length:Int) - ((T:Int) - (nC .taken (rs true):Nat))=s:=by
 obtain⟨Wf,Wt,df,dt,A',B',a',h',b',t',t⟩:=M.two;unfold az;rw[t.reads.1.1,t.reads.1.2.2.1];have h1:=t.lt;have h2:=t.ta;have h3:=t.la;have h4:=t.sa;show ((A.length:Int) % (s * R) - (t':Int) % (s * R)) % (s * R)=s ↔ _;rw[mQ M.s0 M.R2 (by omega) h4];have:=t.waits.2.2;unfold nC;rw[this];omega
theorem M8.full2 (M:M8 s R n m rs un tk A B T Hd):az ⟨s,R,false⟩ m (rs true) .answered .handed=s ↔ (B.length:Int) - ((Hd:Int) - (nC .handed (rs false):Nat))=s:=by
 obtain⟨Wf,Wt,df,dt,A',B',a',h',b',t',t⟩:=M.two;unfold az;rw[t.reads.2.2.2.2,t.reads.2.2.1];have h1:=t.lh;have h2:=t.hb;have h3:=t.lb;have h4:=t.sb;show ((B.length:Int) % (s * R) - (h':Int) % (s * R)) % (s * R)=s ↔ _;rw[mQ M.s0 M.R2 (by omega) h4];have:=t.waits.1.2;unfold nC;rw[this];omega
theorem M8.none1 (M:M8 s R n m rs un tk A B T Hd):az ⟨s,R,false⟩ m (rs true) .asked .taken=0 ↔ (A.length:Int) - (nC .asked (rs false):Nat)=T:=by
 obtain⟨Wf,Wt,df,dt,A',B',a',h',b',t',t⟩:=M.two;unfold az;rw[t.reads.2.1,t.reads.2.2.2.1];have h1:=t.lt;have h2:=t.ta;have h3:=t.la;have h4:=t.sa;show ((a':Int) % (s * R) - (T:Int) % (s * R)) % (s * R)=0 ↔ _;rw[mQ M.s0 M.R2 h2 (by omega)];have:=t.waits.1.1;unfold nC;rw[this];omega
theorem M8.none2 (M:M8 s R n m rs un tk A B T Hd):az ⟨s,R,false⟩ m (rs false) .answered .handed=0 ↔ (B.length:Int) - (nC .answered (rs true):Nat)=Hd:=by
 obtain⟨Wf,Wt,df,dt,A',B',a',h',b',t',t⟩:=M.two;unfold az;rw[t.reads.1.2.2.2,t.reads.1.2.1];have h1:=t.lh;have h2:=t.hb;have h3:=t.lb;have h4:=t.sb;show ((b':Int) % (s * R) - (Hd:Int) % (s * R)) % (s * R)=0 ↔ _;rw[mQ M.s0 M.R2 h2 (by omega)];have:=t.waits.2.1;unfold nC;rw[this];omega
theorem M8.ask (M:M8 s R n m rs un tk A B T Hd) (h:az ⟨s,R,false⟩ m (rs false) .asked .taken≠s) {nm:Int}(hl:bw n un=some nm) (wt:Int) :
 M8 s R n m (ba rs false (rs false++lZ ⟨s,R,false⟩ m (rs false) false .asked nm wt)) (un++[nm]) tk (A++[(nm,wt)]) B T Hd:=by
 obtain⟨Wf,Wt,df,dt,A',B',a',h',b',t',t⟩:=M.two;have hlt:(A.length:Int) < t'+s:=by
  rw[Ne,M.full]at h;have h1:=t.waits.2.2;unfold nC at h;rw[h1]at h;have h1:=t.lt;have h2:=t.ta;have h3:=t.la;have h4:=t.sa;omega
 obtain⟨W,t2⟩:=t.asked hlt nm wt;have hT:=M.TA.1;refine⟨⟨_,_,_,_,_,_,_,_,_,_,t2⟩,?_,M.bt,M.und.snoc (jn hl) (mW hl),M.tkd,M.n9,M.s0,M.s8,M.R2⟩;rw[drop_append_of_le_length hT,map_append];refine(List.Perm.append_right [nm] M.pm).trans ?_;rw[List.append_assoc (List.map _ (List.drop T A)),List.append_assoc (List.map _ (List.drop T A))];refine List.Perm.append_left _ ?_;show (tk++(B.drop Hd).map (·.1)++[nm]).Perm ([nm]++_);exact List.perm_append_comm
theorem M8.takeR (M:M8 s R n m rs un tk A B T Hd) (h:az ⟨s,R,false⟩ m (rs true) .asked .taken≠0):∃ nw,A[T]?=some nw/\rdP m (rs true) false (rdC m (rs true) .taken % s)=some nw/\T < A.length/\tk.contains nw.1=false/\(0 <= nw.1/\nw.1 < 9) /\
 M8 s R n m (ba rs true (rs true++[dl ⟨s,R,false⟩ m (rs true) .taken])) un (tk++[nw.1]) A B (T+1) Hd:=by
 obtain⟨Wf,Wt,df,dt,A',B',a',h',b',t',t⟩:=M.two;have hlt:T < a':=by
  rw[Ne,M.none1]at h;have h1:=t.waits.1.1;unfold nC at h;rw[h1]at h;have h2:=t.ta;have h3:=t.la;omega
 have hTA:T < A.length:=by have:=t.la;omega
 have hd:A.drop T=A[T] :: A.drop (T+1):=List.drop_eq_getElem_cons hTA;have pm:=M.pm;rw[hd,map_cons,cons_append]at pm;have nd:=(pm.nodup_iff).mp M.und.1;have nin:=(nodup_cons.mp nd).1;have hin:A[T].1∈un:=pm.mem_iff.mpr mem_cons_self;have hb:=M.und.2 _ hin;have n9:=M.n9;have hb9:0 <= A[T].1/\A[T].1 < 9:=⟨hb.1,by have:=hb.2;omega⟩
 have hc:tk.contains A[T].1=false:=by
  rw[contains_eq_mem,decide_eq_false_iff_not];exact λy=>nin (mem_append.mpr (.inr (mem_append.mpr (.inl y))))
 obtain⟨W,t2⟩:=t.took hlt;refine⟨A[T],getElem?_eq_getElem hTA,?_,hTA,hc,hb9,⟨⟨_,_,_,_,_,_,_,_,_,_,t2⟩,?_,by rw[List.length_append];have:=M.bt;show _+(_+1)=_;omega,M.und,M.tkd.snoc hc hb9,M.n9,M.s0,M.s8,M.R2⟩⟩
 . rw[t.reads.2.2.2.1];rw[t.ask M.s0 hlt,getElem?_eq_getElem hTA]
 . refine pm.trans ?_;rw[List.append_assoc];show (A[T].1 :: ((A.drop (T+1)).map (·.1)++(tk++(B.drop Hd).map (·.1)))).Perm _;refine List.Perm.trans ?_ (List.Perm.append_left _ (List.perm_append_comm_assoc tk [A[T].1] _).symm);exact(List.perm_middle (a:=A[T].1)).symm
theorem M8.answer (M:M8 s R n m rs un tk A B T Hd) {nm:Int}(hm:nm∈tk) (h:az ⟨s,R,false⟩ m (rs true) .answered .handed≠s) (wt:Int) :
 M8 s R n m (ba rs true (rs true++lZ ⟨s,R,false⟩ m (rs true) true .answered nm wt)) un (tk.erase nm) A (B++[(nm,wt)]) T Hd:=by
 obtain⟨Wf,Wt,df,dt,A',B',a',h',b',t',t⟩:=M.two;have hlt:(B.length:Int) < h'+s:=by
  rw[Ne,M.full2]at h;have h1:=t.waits.1.2;unfold nC at h;rw[h1]at h;have h1:=t.lh;have h2:=t.hb;have h3:=t.lb;have h4:=t.sb;omega
 obtain⟨W,t2⟩:=t.answered hlt nm wt;have hH:=M.TA.2;have hpos:=List.length_pos_of_mem hm;refine⟨⟨_,_,_,_,_,_,_,_,_,_,t2⟩,?_,by rw[List.length_append,List.length_erase_of_mem hm];have:=M.bt;show _+1+_=_;omega,M.und,M.tkd.erase,M.n9,M.s0,M.s8,M.R2⟩;rw[drop_append_of_le_length hH,map_append];refine M.pm.trans (List.Perm.append_left _ ?_);show (tk++_).Perm (tk.erase nm++((B.drop Hd).map (·.1)++[nm]));refine(List.Perm.append_right _ (List.perm_cons_erase hm)).trans ?_;rw[cons_append,<-List.append_assoc];exact(List.perm_append_singleton nm _).symm
theorem M8.collectR (M:M8 s R n m rs un tk A B T Hd) (h:az ⟨s,R,false⟩ m (rs false) .answered .handed≠0):∃ nw,B[Hd]?=some nw/\rdP m (rs false) true (rdC m (rs false) .handed % s)=some nw/\Hd < B.length/\nw.1∈un /\
 M8 s R n m (ba rs false (rs false++[dl ⟨s,R,false⟩ m (rs false) .handed])) (un.erase nw.1) tk A B T (Hd+1):=by
 obtain⟨Wf,Wt,df,dt,A',B',a',h',b',t',t⟩:=M.two;have hlt:Hd < b':=by
  rw[Ne,M.none2]at h;have h1:=t.waits.2.1;unfold nC at h;rw[h1]at h;have h2:=t.hb;have h3:=t.lb;omega
 have hHB:Hd < B.length:=by have:=t.lb;omega
 have hd:B.drop Hd=B[Hd] :: B.drop (Hd+1):=List.drop_eq_getElem_cons hHB;have pm:=M.pm;rw[hd,map_cons]at pm;have hin:B[Hd].1∈un:=pm.mem_iff.mpr (mem_append.mpr (.inr (mem_append.mpr (.inr mem_cons_self))));obtain⟨W,t2⟩:=t.collected hlt;refine⟨B[Hd],getElem?_eq_getElem hHB,?_,hHB,hin,⟨⟨_,_,_,_,_,_,_,_,_,_,t2⟩,?_,M.bt,M.und.erase,M.tkd,M.n9,M.s0,M.s8,M.R2⟩⟩
 . rw[t.reads.1.2.1];rw[t.answer M.s0 hlt,getElem?_eq_getElem hHB]
 . have p2:un.Perm (B[Hd].1 :: ((A.drop T).map (·.1)++(tk++(B.drop (Hd+1)).map (·.1)))):=by
    refine pm.trans ?_;rw[<-List.append_assoc,<-List.append_assoc];exact List.perm_middle
   have p3:=p2.erase B[Hd].1;rw[List.erase_cons_head]at p3;exact p3
theorem M8.drain (M:M8 s R n m rs un tk A B T Hd) (b:Bool) {x:Wr}{rest:List Wr}(e:rs b=x :: rest):M8 s R n (m.put x) (ba rs b rest) un tk A B T Hd:=by
 obtain⟨Wf,Wt,df,dt,A',B',a',h',b',t',t⟩:=M.two;cases b with
|false =>
  obtain⟨A2,a2,h2,_,_,t2⟩:=t.drainF e;exact⟨⟨_,_,_,_,_,_,_,_,_,_,t2⟩,M.pm,M.bt,M.und,M.tkd,M.n9,M.s0,M.s8,M.R2⟩
|true =>
  obtain⟨A2,a2,h2,_,_,t2⟩:=t.drainT e;exact⟨⟨_,_,_,_,_,_,_,_,_,_,t2⟩,M.pm,M.bt,M.und,M.tkd,M.n9,M.s0,M.s8,M.R2⟩
theorem uV (rs:Bool->List Wr) (b:Bool):ba rs b (rs b)=rs:=by
 funext c;unfold ba;split
 . rename_i y;rw[y]
 . rfl
theorem M8.zero {n:Nat}(hs:0 < s) (hs8:s <= 8) (hR:2 <= R) (n9:n <= 9):M8 s R n Mem.zero (λ_=>[]) [] [] [] [] 0 0 :=
 ⟨⟨_,_,_,_,_,_,_,_,_,_,Two.zero hs⟩,List.Perm.refl _,rfl,Nms.nil _,Nms.nil _,n9,hs,hs8,hR⟩
end
section
variable {X:Cx}
end
section
variable {X:Cx}
end
section
variable {X:Cx}
end
def ltS (a b:Str):Prop:=a.cps.toList < b.cps.toList
def leS (a b:Str):Prop:=¬ ltS b a
theorem nS {α β:Type}{R:α->β->Prop}:∀ {bs cs:List β},cs.Perm bs->∀ {as:List α},Paired R as bs->∃ ds,ds.Perm as/\Paired R ds cs:=by
 intro bs cs p
 induction p with
|nil=>intro as h;exact⟨as,.refl _,h⟩
|cons x _ ih =>
  intro as h;cases h with
 |cons r t =>
   obtain⟨ds,p1,p2⟩:=ih t;exact⟨_ :: ds,p1.cons _,.cons r p2⟩
|swap x y l =>
  intro as h;cases h with
 |cons r t =>
   cases t with
  |cons r' t'=>exact⟨_ :: _ :: _,List.Perm.swap _ _ _,.cons r' (.cons r t')⟩
|trans _ _ ih1 ih2 =>
  intro as h;obtain⟨ds,p1,p2⟩:=ih2 h;obtain⟨es,p3,p4⟩:=ih1 p2;exact⟨es,p3.trans p1,p4⟩
theorem wF {xs:List V}{its:List Value}:∀ {ks:List Str}{kv:List Value},Paired (λk u=>bR (.str k) u) ks kv->bC xs its->ks.length=xs.length->Paired (λ(p:Str × V) (q:Value × Value)=>bR (.str p.1) q.1/\bR p.2 q.2) (ks.zip xs) (kv.zip its):=by
 intro ks kv h
 induction h generalizing xs its with
|nil=>intro _ _;rw[List.zip_nil_left,List.zip_nil_left];exact .nil
|cons r t ih =>
  intro hv hl;cases hv with
 |nil=>cases hl
 |cons r' t'=>exact .cons ⟨r,r'⟩ (ih t' (by simpa using hl))
theorem uJ {ps:List (Str × V)}{qs:List (Value × Value)}(h:Paired (λ(p:Str × V) (q:Value × Value)=>bR (.str p.1) q.1/\bR p.2 q.2) ps qs):bC (ps.map (·.2)) (qs.map (·.2)):=by
 induction h with
|nil=>exact .nil
|cons r _ ih=>exact .cons r.2 ih
theorem Paired.at' {α β:Type}{R:α->β->Prop}{as:List α}{bs:List β}(h:Paired R as bs):∀ {i:Nat}{a:α},as[i]?=some a->∃ b,bs[i]?=some b/\R a b:=by
 induction h with
|nil=>intro i a e;cases e
|cons r _ ih =>
  intro i a e;cases i with
 |zero=>cases e;exact⟨_,rfl,r⟩
 |succ i=>exact ih (i:=i) e
theorem wU {ks:List Str}{kv:List Value}(h:Paired (λk u=>bR (.str k) u) ks kv):StrsAre kv ks:=by
 induction h with
|nil=>exact .nil
|cons r _ ih =>
  obtain⟨t,e⟩:=r;rw[e];exact .cons _ _ ih
section
variable {X:Cx}{pins:List (Addr × Obj)}{σ:St}{H:Hp}{s:Shared}
def epO (D:Addr) (o:Obj):HO:=.ext λh=>h.get? D=some o
theorem Fz {P:Program}{w:World}{H':Hp}{h:Heap}{D:Addr}{o:Obj}(e:h.get? D=some o):cT P w H' h D (epO D o):=⟨e,⟨o,e⟩,λ_ _ e' k=>k _ e'⟩
theorem Inv.epAt {D:Addr}{o:Obj}(I:Inv X pins σ H s) (e:H D=some (epO D o)):s.heap.get? D=some o:=by
 have h:=(show cT X.prog X.w H s.heap D (epO D o) from I.hok D _ e)
 exact h.1
theorem Room.in2 {k:Nat}{A:Around}(r:Room (k+1) A):Room k A.in1.in1:=⟨r.hd,by have:=r.dp;show A.depth+3 * k+5 < _;omega,by have:=r.un;show A.units+1+1+16 * k+200 < _;omega⟩
theorem DB {k:Nat}{f:Addr}{fd:FuncData}{pn:Str}{sp:Sp}{Q:VK}{x:V}{u:Value}(F:FnOk X.prog X.w X.K X.mg X.base CX0 k f fd [pn] sp) (hr:Room (k+1) X.A) (hb:aC X.K fd [pn] [])
 (I:Inv X pins σ H s) (r:bR x u) (h:sp [x] H Q E0):wpAny (model X.prog X.w) X.A.in1.in1 (call (.ref f) [u]) (EP X pins σ Q) (λ_ _=>False) s:=by
 refine wpAny_call (codeAny_mono (F.run X.A.in1.in1 X.stack s H ⟨[u],[]⟩ [u] [x] Q E0 hr.in2 I.env0.in1.in1 (hb s [u] I.kIn rfl) (.cons r .nil) h) λr s' hq=>?_);cases r with
|error e=>exact hq.elim
|ok fl =>
  cases fl with
 |ret u=>exact I.after hq
 |next=>exact False.elim hq
 |brk=>exact False.elim hq
 |cont=>exact False.elim hq
theorem xT {k:Nat}{f:Addr}{fd:FuncData}{pn:Str}{sp:Sp}{Q:VK}{l:Addr}{xs:List V}{ks:List Str}(F:FnOk X.prog X.w X.K X.mg X.base CX0 k f fd [pn] sp) (hr:Room (k+1) X.A) (hb:aC X.K fd [pn] [])
 (I:Inv X pins σ H s) (hq:SqL X.K H l xs) (hlen:ks.length=xs.length) (h64:xs.length < 64)
 (turn:∀ (i:Nat) (x:V) (key:Str),xs[i]?=some x->ks[i]?=some key->∀ H',bG H H'->sp [x] H' (λv H''=>v=.str key/\bG H' H'') E0)
 (q:∀ D H' (ps:List (Str × V)),H D=none->bG H H'->H' D=some (.lst (ps.map (·.2)))->ps.Perm (ks.zip xs)->ps.Pairwise (λp q=>leS p.1 q.1)->Q (.ref D) H') :
 wpAny (model X.prog X.w) X.A (call (.builtin "sorted") [.ref l] [(Str.ofString "key",.ref f)]) (EP X pins σ Q) X.xe s:=by
 obtain⟨its,r',pl,hz⟩:=I.list hq;have hil:=r'.length;refine call_function_entry_kw kind_sorted plain_sorted entry_sorted (ksk_s1 _ _) ?_;unfold Builtin.«sorted»;refine wpAny_bind (m:=checkCount "sorted" 1 1 _) (wpAny_pure ?_);refine wpAny_bind (collect_list pl.isList ?_ (by rw[sizeLine_eq];omega));refine wpAny_bind (wpAny_newList ?_ (by rw[sizeLine_eq];omega));have hsz:((s.heap.push (seqObj "list" #[] 0)).update s.heap.objs.size (Obj.mapSeq (·++its.toArray))).objs.size=s.heap.objs.size+1:=by
  rw[Heap.size_update,size_push']
 have hoL:(((s.heap.push (seqObj "list" #[] 0)).update s.heap.objs.size (Obj.mapSeq (·++its.toArray))).push (seqObj "list" its.toArray 0)).get? (s.heap.objs.size+1)=some (seqObj "list" its.toArray 0):=by
  rw[<-hsz];exact Heap.get?_push_size _ rfl
 have keep:∀ b o,s.heap.get? b=some o->(((s.heap.push (seqObj "list" #[] 0)).update s.heap.objs.size (Obj.mapSeq (·++its.toArray))).push (seqObj "list" its.toArray 0)).get? b=some o:=λb o q=>by
  have hlt:b < s.heap.objs.size:=Heap.lt_size q;rw[Heap.get?_push_ne _ _ _ (by rw[hsz];exact ne_of_lt (Nat.lt_succ_of_lt hlt)),Heap.get?_update_ne _ _ _ _ (ne_of_lt hlt),Heap.get?_push_ne _ _ _ (ne_of_lt hlt)];exact q
 show wpAny _ _ _ _ _ { s with heap:=((s.heap.push (seqObj "list" #[] 0)).update s.heap.objs.size (Obj.mapSeq (·++its.toArray))).push (seqObj "list" its.toArray 0) };rw[hsz];have hsz2:(((s.heap.push (seqObj "list" #[] 0)).update s.heap.objs.size (Obj.mapSeq (·++its.toArray))).push (seqObj "list" its.toArray 0)).objs.size=s.heap.objs.size+2:=by
  rw[size_push',hsz]
 generalize ((s.heap.push (seqObj "list" #[] 0)).update s.heap.objs.size (Obj.mapSeq (·++its.toArray))).push (seqObj "list" its.toArray 0)=h2 at hoL keep hsz2;obtain⟨D,hD⟩:∃ D,D=s.heap.objs.size+1:=⟨_,rfl⟩
 rw[<-hD]at hoL |-;refine wpAny_bind (wpAny_holding (wpAny_call_entry_kw slot_list_sort ⟨_,hoL,rfl⟩ entry_list_sort ?body (ksk_l1 _ _)))
 case body =>
  show wpAny (model X.prog X.w) X.A.in1.in1 (Builtin.«list.sort» ⟨[.ref D],[(Str.ofString "key",.ref f)]⟩) _ _ _;rw[ksk_t1];obtain⟨e1,ho1⟩:∃ e1,(h2.update D (Obj.mapSeq λ_=>(#[]:Array Value))).get? D=some (seqObj "list" #[] e1):=⟨_,get?_update_seq hoL λ_=>#[]⟩
  unfold ksk_tree;refine wpAny_bind (listItems_at hoL rfl ?_);refine wpAny_bind (listUpdate_at hoL rfl ?_ (by rw[size_toArray,sizeLine_eq];omega) (zero_le _));refine wpAny_bind (seqEpoch_at ho1 rfl ?_);refine wpAny_bind (wpAny_newTuple ?_ (by show its.length <= _;rw[sizeLine_eq];omega));refine wpAny_bind (wpAny_newList ?_ (zero_le _));refine wpAny_holding ?_;have s1:=Heap.SameBut.update h2 D (Obj.mapSeq λ_=>(#[]:Array Value));have keep4:∀ b o,s.heap.get? b=some o->((h2.update D (Obj.mapSeq λ_=>(#[]:Array Value))).push (seqObj "tuple" its.toArray 0)).get? b=some o:=λb o q=>by
   have hlt:b < s.heap.objs.size:=Heap.lt_size q;exact Heap.get?_push_of_some _ ((s1.2 b (by rw[hD];exact ne_of_lt (Nat.lt_succ_of_lt hlt))).trans (keep b o q))
  have ho4:((h2.update D (Obj.mapSeq λ_=>(#[]:Array Value))).push (seqObj "tuple" its.toArray 0)).get? D=some (seqObj "list" #[] e1):=Heap.get?_push_of_some _ ho1;have hk4:((h2.update D (Obj.mapSeq λ_=>(#[]:Array Value))).push (seqObj "tuple" its.toArray 0)).objs.size=s.heap.objs.size+3:=by rw[size_push',Heap.size_update,hsz2]
  have fD:H D=none:=I.hok.fresh (by rw[hD];omega);have I4:Inv X pins σ (upd H D (epO D (seqObj "list" #[] e1))) { s with heap:=(h2.update D (Obj.mapSeq λ_=>(#[]:Array Value))).push (seqObj "tuple" its.toArray 0) }:=I.laid (t':=s.toks) keep4 (by rw[hD];omega) (Fz ho4);generalize (h2.update D (Obj.mapSeq λ_=>(#[]:Array Value))).push (seqObj "tuple" its.toArray 0)=h4 at I4 hk4 ho4 keep4 |-;obtain⟨kS,hkS⟩:∃ kS,kS=h4.objs.size:=⟨_,rfl⟩
  have fK:upd H D (epO D (seqObj "list" #[] e1)) kS=none:=I4.hok.fresh (by rw[hkS];exact Nat.le_refl _);have hkD:kS≠D:=by rw[hkS,hk4,hD];omega
  have fKS:H kS=none:=by rw[aa hkD]at fK;exact fK
  have I5:Inv X pins σ (upd (upd H D (epO D (seqObj "list" #[] e1))) kS (.lst [])) { s with heap:=h4.push (seqObj "list" #[] 0) }:=I4.laid (t':=s.toks) (λb o q=>Heap.get?_push_of_some _ q) (by rw[hkS];exact Nat.le_refl _) ⟨zero_le _,[],0,.nil,by rw[hkS];exact Heap.get?_push_size _ rfl⟩;show wpAny (model X.prog X.w) X.A.in1.in1 (ksk_rest D (.ref f) false its.toArray e1 (.ref h4.objs.size)) _ _ { s with heap:=h4.push (seqObj "list" #[] 0) };rw[<-hkS];have c5:bG H (upd (upd H D (epO D (seqObj "list" #[] e1))) kS (.lst [])):=(ag fD).trans (ag fK);have d5:upd (upd H D (epO D (seqObj "list" #[] e1))) kS (.lst []) D=some (epO D (seqObj "list" #[] e1)):=by rw[aa (Ne.symm hkD)];exact a6
  have k5:upd (upd H D (epO D (seqObj "list" #[] e1))) kS (.lst []) kS=some (.lst ((ks.take 0).map V.str)):=a6;generalize upd (upd H D (epO D (seqObj "list" #[] e1))) kS (.lst [])=H5 at I5 c5 d5 k5;generalize ({ s with heap:=h4.push (seqObj "list" #[] 0) }:Shared)=s5 at I5 |-;clear I4 keep4 ho4 hk4 fK hkS keep hoL ho1 s1 hsz hsz2;unfold ksk_rest;refine wpAny_bind (wpAny_rule ?_)
  first
  |rw[List.forIn_toArray]
  |(rw[<-Array.forIn_toList];simp only[List.toList_toArray])
  |rw[<-Array.forIn_toList]
  refine wpAny_bind (ksk_fold (λi s'=>∃ H',Inv X pins σ H' s'/\bG H H'/\H' D=some (epO D (seqObj "list" #[] e1))/\H' kS=some (.lst ((ks.take i).map V.str))) its 0 s5 ⟨H5,I5,c5,d5,k5⟩ ?step ?done)
  case step =>
   rintro j u s' hx ⟨H',I',c',d',k'⟩;simp only[Nat.zero_add]at k' |-;have hj:j < its.length:=(List.getElem?_eq_some_iff.mp hx).1;obtain⟨x,hxx,rx⟩:∃ x,xs[j]?=some x/\bR x u:=by
    obtain⟨u',hu',ru⟩:=bC.get r' (getElem?_eq_getElem (show j < xs.length by omega));rw[hx]at hu';cases hu';exact⟨_,getElem?_eq_getElem (by omega),ru⟩
   obtain⟨key,hkj⟩:∃ key,ks[j]?=some key:=⟨_,getElem?_eq_getElem (by omega)⟩
   refine wpAny_bind (wpAny_attempt (wpAny_mono (DB F hr hb I' rx (turn j x key hxx hkj H' c')) (λv s'' he=>?_) λ_ _ hF=>hF.elim));obtain⟨v',H'',I'',rv,rfl,c''⟩:=he;obtain⟨t2,rfl⟩:=rv
   try dsimp only
   have k'':=c'' _ _ k';have d'':=c'' _ _ d';obtain⟨zz,kits,nn,rk,hkl,ek⟩:=I''.lstM k'';have ek':s''.heap.get? kS=some (seqObj "list" kits.toArray nn):=ek;have hks:kits.length <= 64:=by rw[<-hkl,length_map,length_take];omega
   refine wpAny_bind (listUpdate_at ek' rfl ?_ (by rw[size_toArray,sizeLine_eq];omega) (Nat.le_trans (le_of_eq (Array.size_push ..)) (by rw[size_toArray,sizeLine_eq];omega)));refine wpAny_pure ⟨rfl,upd H'' kS (.lst ((ks.take (j+1)).map V.str)),?_,?_,?_,a6⟩
   . refine I''.lset (its':=kits++[Value.str key t2]) k'' ek (by simp) ?_ ?_
     . rw[take_add_one,hkj,map_append];exact bC.append rk (.cons ⟨t2,rfl⟩ .nil)
     . rw[length_map,length_take,sizeLine_eq];omega
   . intro b o e;rw[aa (λy=>by rw[y,fKS]at e;cases e)];exact c'' _ _ (c' _ _ e)
   . rw[aa (Ne.symm hkD)];exact d''
  case done =>
   rintro s' ⟨H',I',c',d',k'⟩;rw[Nat.zero_add,take_of_length_le (by omega)]at k';obtain⟨zz,kits,nn,rk,hkl,ek⟩:=I'.lstM k';have ek':s'.heap.get? kS=some (seqObj "list" kits.toArray nn):=ek;rw[length_map]at hkl;have eD:=I'.epAt d'
   try dsimp only
   refine wpAny_bind (listItems_at ek' rfl ?_);have pk:Paired (λk u=>bR (.str k) u) ks kits:=by
    have:∀ {ks:List Str} {kits:List Value},bC (ks.map V.str) kits->Paired (λk u=>bR (.str k) u) ks kits:=by
     intro ks
     induction ks with
    |nil=>intro kits h;cases h;exact .nil
    |cons k ks ih=>intro kits h;cases h with|cons r t=>exact .cons r (ih t)
    exact this rk
   have hS:=wU pk;have hzs:(kits.toArray.zip its.toArray).size=xs.length:=by rw[Array.size_zip,size_toArray,size_toArray];omega
   have hzl:(kits.toArray.zip its.toArray).toList=kits.zip its:=by rw[ksk_zip]
   have fin:∀ st:SortSt,(arrOf st).Perm (kits.toArray.zip its.toArray)->SortedToK PyProof.Rows.strKind (arrOf st) (arrOf st).size->failedOf st=none ->
    wpAny (model X.prog X.w) X.A.in1.in1 (ksk_tail D false e1 (.ref kS) st) (λfin s'=>∃ v,fin=.done (.ret v)/\wpAny (model X.prog X.w) X.A.in1 (ret (Value.ref D)) (λfin s'=>∃ v,fin=.done (.ret v)/\EP X pins σ Q v s') X.xe s') X.xe s':=by
    intro st hp hs hf;have hpl:(arrOf st).toList.Perm (kits.zip its):=by rw[<-hzl];exact Array.perm_iff_toList_perm.mp hp
    obtain⟨ps,pp1,pp2⟩:=nS hpl (wF pk r' hlen);have hout:((arrOf st).map (·.2)).size=xs.length:=by rw[Array.size_map,hp.size_eq,hzs]
    unfold ksk_tail
    try dsimp only
    refine wpAny_bind (listUpdate_at ek' rfl ?_ (by rw[size_toArray,sizeLine_eq];omega) (zero_le _));have I6:=I'.lset (t':=s'.toks) (f:=λ_=>(#[]:Array Value)) (its':=[]) (ys:=[]) k' ek rfl .nil (zero_le _);have eD6:(s'.heap.update kS (Obj.mapSeq λ_=>(#[]:Array Value))).get? D=some (seqObj "list" #[] e1):=((Heap.SameBut.update s'.heap kS (Obj.mapSeq λ_=>(#[]:Array Value))).2 D (Ne.symm hkD)).trans eD;have d6:upd H' kS (.lst []) D=some (epO D (seqObj "list" #[] e1)):=by rw[aa (Ne.symm hkD)];exact d'
    refine wpAny_bind (wpAny_letGo ?_);refine wpAny_bind (seqEpoch_at eD6 rfl ?_);refine wpAny_bind (listUpdate_at eD6 rfl ?_ (zero_le _) (Nat.le_trans (le_of_eq hout) (by rw[sizeLine_eq];omega)));rw[hf];simp only[bne_self_eq_false,false_eq_true,if_false];refine wpAny_pure ⟨_,rfl,wpAny_pure ⟨_,rfl,.ref D,upd (upd H' kS (.lst [])) D (.lst (ps.map (·.2))),?_,rfl,q D _ ps fD ?_ a6 pp1 ?_⟩⟩
    . obtain⟨c2,hc2⟩:∃ c2,((s'.heap.update kS (Obj.mapSeq λ_=>(#[]:Array Value))).update D (Obj.mapSeq λ_=>(arrOf st).map (·.2))).get? D=some (seqObj "list" ((arrOf st).map (·.2)) c2):=⟨_,get?_update_seq eD6 λ_=>(arrOf st).map (·.2)⟩
      refine I6.write (x:=D) (e:=D) (by rw[d6];exact trivial) (.inl rfl) (λb' u hb hu=>(Heap.get?_update_other _ _ (Ne.symm hb)).trans hu) ⟨_,hc2⟩ ?_;have vv:=uJ pp2;refine⟨by rw[vv.length,length_map,Array.length_toList];rw[Array.size_map]at hout;rw[hout,sizeLine_eq];omega,((arrOf st).toList.map (·.2)),c2,vv,?_⟩;rw[hc2];congr 3;rw[<-Array.toList_map]
    . intro b o e;rw[aa (λy=>by rw[y,fD]at e;cases e),aa (λy=>by rw[y,fKS]at e;cases e)];exact c' _ _ e
    . rw[List.pairwise_iff_getElem];intro i j hi hj hij;have ei:=getElem?_eq_getElem hi;have ej:=getElem?_eq_getElem hj;obtain⟨bi,hbi,ri,_⟩:=Paired.at' pp2 ei;obtain⟨bj,hbj,rj,_⟩:=Paired.at' pp2 ej;have hjs:j < (arrOf st).size:=by
       have:=(List.getElem?_eq_some_iff.mp hbj).1;rw[Array.length_toList]at this;exact this
      have qq:=hs i j (Nat.le_of_lt hij) hjs;have kki:∀ {m:Nat} {b:Value × Value} {p:Str × V},(arrOf st).toList[m]?=some b->bR (.str p.1) b.1->PyProof.Rows.KK PyProof.Rows.strKind (arrOf st) m=p.1.cps.toList:=λ{m b p} hb r=>by
       obtain⟨t,e⟩:=r;unfold PyProof.Rows.KK;rw[<-Array.getElem?_toList,hb];show (PyProof.Rows.strKind.keyOf b.1).getD PyProof.Rows.strKind.dflt=_;rw[e];rfl
      rw[kki hbi ri,kki hbj rj]at qq;intro hlt;have:decide (ps[j].1.cps.toList < ps[i].1.cps.toList)=false:=qq;rw[decide_eq_false_iff_not]at this;exact this hlt
   unfold ksk_end
   try dsimp only
   simp only[false_eq_true,if_false];by_cases h2:its.toArray.size < 2
   . rw[if_pos h2,if_pos h2];refine wpAny_bind (wpAny_pure ?_);rw[StateT.run_pure];refine wpAny_bind (wpAny_pure ?_)
     try dsimp only
     refine fin (SortSt.mk' general' (kits.toArray.zip its.toArray) #[] 7 none) (Array.Perm.refl _) ?_ rfl;intro i j hij hj;have hj2:j < (kits.toArray.zip its.toArray).size:=hj;rw[hzs]at hj2;rw[size_toArray]at h2;have:i=j:=by omega
     subst this;exact KeyOrd.kle_refl _
   . rw[if_neg h2,if_neg h2];rw[size_toArray]at h2;have hkk:keyKind' kits.toArray=pure oneType':=by
      obtain⟨v₁,v₂,rest,e⟩:∃ v₁ v₂ rest,kits=v₁ :: v₂ :: rest:=by
       have hk2:2 <= kits.length:=by omega
       match kits,hk2 with
      |[],h=>exact absurd h (by simp)
      |[_],h=>exact absurd h (by simp)
      |v₁ :: v₂ :: rest,_=>exact⟨v₁,v₂,rest,rfl⟩
      rw[e]at hS |-;exact keyKind_strs hS
     rw[hkk];refine wpAny_bind (wpAny_pure ?_);refine wpAny_bind (wpAny_mono (wpS_sortRunsK (κ:=PyProof.Rows.strKind) strKind_oneLt (a₀:=kits.toArray.zip its.toArray) (st:=SortSt.mk' oneType' (kits.toArray.zip its.toArray) #[] 7 none)
      (Q:=λ_ st'=>(arrOf st').Perm (kits.toArray.zip its.toArray)/\failedOf st'=none/\SortedToK PyProof.Rows.strKind (arrOf st') (kits.toArray.zip its.toArray).size)
      ?_ ⟨Array.Perm.refl _,rfl,rfl,rfl⟩ (by rw[hzs];omega) (by rw[hzs];exact h64) λst' a1 a2 a3=>⟨a1,a2,a3⟩) ?_ λ_ _ e=>e)
     . intro p hp;rw[hzl]at hp;obtain⟨x,t,e⟩:=hS.all _ (of_mem_zip hp).1;exact⟨x.cps.toList,by rw[e]⟩
     . rintro⟨⟨⟩,st'⟩ s'' ⟨rfl,hp,hf,hs⟩
       try dsimp only
       exact fin st' hp (by rw[hp.size_eq];exact hs) hf
def EM (K:PySem.W.Frag) (sp:Sp) (ta:TE):TE:=λσ H Q=>ta σ H λx H1=>∃ (l:Addr) (xs:List V) (ks:List Str),x=.ref l/\SqL K H1 l xs/\ks.length=xs.length/\xs.length < 64 /\
 (∀ (i:Nat) (x:V) (key:Str),xs[i]?=some x->ks[i]?=some key->∀ H',bG H1 H'->sp [x] H' (λv H''=>v=.str key/\bG H' H'') E0) /\
 ∀ D H' (ps:List (Str × V)),H1 D=none->bG H1 H'->H' D=some (.lst (ps.map (·.2)))->ps.Perm (ks.zip xs)->ps.Pairwise (λp q=>leS p.1 q.1)->Q (.ref D) H'
theorem Bs {k:Nat}{f:Addr}{fd:FuncData}{pn fnm:Str}{sp:Sp}{e:Expr}{ta:TE}{p fp kp pos:Pos}(F:FnOk X.prog X.w X.K X.mg X.base CX0 k f fd [pn] sp) (hr:Room (k+1) X.A) (hb:aC X.K fd [pn] [])
 (hg:Gl X "sorted") (hm:X.mg "sorted"=none) (hgf:Gl X fnm) (hmf:X.mg fnm=some (.ref f)) (he:PE X e ta) (hdb:(fnm == ("__debug__":Str))=false:=by decide)
 (hst:starEach [e] X.env=[(false,eval e X.env)]:=by rfl) :
 PE X (.Call (.Name "sorted" p) [e] [⟨some "key",.Name fnm fp,kp⟩] pos) (EM X.K sp ta):=by
 intro pins s σ H Q I h;refine wpAny_Call_Name_kw (m5 I hg hm kU ?_ (by decide) (by decide));refine callWith_kw ?_ (by rw[hst];rfl) (by rw[hst];rfl);refine thn ((yL he a9 hst) pos pins s σ H (λvs H1=>match vs with
 |[x]=>∃ (l:Addr) (xs:List V) (ks:List Str),x=.ref l/\SqL X.K H1 l xs/\ks.length=xs.length/\xs.length < 64 /\
   (∀ (i:Nat) (x:V) (key:Str),xs[i]?=some x->ks[i]?=some key->∀ H',bG H1 H'->sp [x] H' (λv H''=>v=.str key/\bG H' H'') E0) /\
   ∀ D H' (ps:List (Str × V)),H1 D=none->bG H1 H'->H' D=some (.lst (ps.map (·.2)))->ps.Perm (ks.zip xs)->ps.Pairwise (λp q=>leS p.1 q.1)->Q (.ref D) H'
 |_=>False) I h) λus s1 ⟨vs,H1,I1,r1,q1⟩=>?_
 match vs,q1,r1 with
|[x],q1,r1 =>
  obtain⟨l,xs,ks,rfl,hq,hlen,h64,turn,q⟩:=q1;obtain⟨u,rfl,rx⟩:=mv r1;cases rx;refine kws_cons (ik I1 hgf hmf (kws_nil ?_) hdb);exact xT F hr hb I1 hq hlen h64 turn q
|[],q1,_=>exact q1.elim
|_ :: _ :: _,q1,_=>exact q1.elim
end
def GZ (K:PySem.W.Frag) (a:Addr) (D:List (Str × Addr)):Prop:=(a == sysModules)=false/\∃ o es ep,K.lookup a=some o/\o.ExactDict/\o.data=.dict es ep/\KTD.Rows (λ(b:Addr) (v:Value)=>v=.ref b) es.toList D
section
variable {X:Cx}{pins:List (Addr × Obj)}{σ:St}{H:Hp}{s:Shared}
theorem uX {A:Around}{E:Value->Shared->Prop}{a:Addr}{D:List (Str × Addr)}{k:Str}{tk:Tok}{o:Obj}{es:Array DictEntry}{ep:Nat}{prog:Program}{w:World}{s:Shared}{Q:Option Value->Shared->Prop}(ho:s.heap.get? a=some o) (hd:o.data=.dict es ep) (hr:KTD.Rows (λ(b:Addr) (v:Value)=>v=.ref b) es.toList D)
 (h1:Q ((KTD.datumAt k D).map Value.ref) { s with toks:=s.toks+1 }):wpAny (model prog w) A (dictGet a (.str k tk)) Q E s:=by
 unfold dictGet
 try with_reducible refine wpAny_holding ?_
 refine wpAny_bind (wpAny_pyHash_str (wpAny_bind (KTD.kt_dictFind_strs (s:={ s with toks:=s.toks+1 }) ho hd (by obtain⟨l⟩:=es;simpa using hr.exact) ?_)));have hq:Q (findBy (λk v=>v.isStr k) es k) { s with toks:=s.toks+1 }:=by
  have hf:findBy (λk v=>v.isStr k) es k=(es.toList.find? λe=>e.key.isStr k).map (·.val):=by
   obtain⟨l⟩:=es;simp[findBy]
  rw[hf];cases hat:KTD.datumAt k D with
 |some d =>
   obtain⟨v,hv,hfl⟩:=hr.find_some hat;rw[hv,hfl];rw[hat]at h1;exact h1
 |none =>
   rw[hr.find_none hat];rw[hat]at h1;exact h1
 rw[findBy_of_findIdx?]at hq;cases hi:es.findIdx? λe=>e.key.isStr k with
|none=>rw[hi]at hq;exact wpAny_pure hq
|some i=>rw[hi]at hq;exact wpAny_bind (wpAny_dictEntries (s:={ s with toks:=s.toks+1 }) ho hd (wpAny_pure hq))
def HD:Option Addr->V
|some b=>.ref b
|none=>.non
def CW (D:List (Str × Addr)) (ty:TE):TE:=λσ H Q=>ty σ H λy H1=>∃ k,y=.str k/\Q (HD (KTD.datumAt k D)) H1
theorem zL {T:Str}{a:Addr}{D:List (Str × Addr)}{e:Expr}{ty:TE}{p apos cpos:Pos}(hg:Gl X T) (hm:X.mg T=some (.ref a)) (ht:GZ X.K a D) (he:PE X e ty) (m:M1 X (.Name T p) "get" apos e cpos) (hdb:(T == ("__debug__":Str))=false:=by decide):PE X (.Call (.Attribute (.Name T p) "get" apos) [e] [] cpos) (CW D ty):=by
 intro pins s σ H Q I h;obtain⟨hs,o,es,ep,hl,hx,hd,hr⟩:=ht;have ho:∀ {s':Shared} {H':Hp},Inv X pins σ H' s'->s'.heap.get? a=some o:=λI'=>I'.kIn a o hl
 refine wpAny_Call_method m.base m.few m.line PySem.F.plainAttrs_dict PySem.F.slot_dict_get PySem.F.type_dict_get (ik I hg hm ?_ hdb);refine⟨⟨o,ho I,hx.1⟩,?_,?_⟩
 . intro b q;cases q;exact⟨o,ho I,hx.2.1⟩
 . rw[m.trees];refine Calls.callWith_builtin rfl (Calls.evalArgs_plain (Calls.spliced_cons (thn (he pins s σ H _ I h) λiv s2 ⟨y,H2,I2,ry,k,ey,q2⟩=>Calls.spliced_nil ?_)));subst ey;obtain⟨t,rfl⟩:=ry;refine wpAny_call_entry PySem.F.slot_dict_get ⟨o,ho I2,hx.1⟩ PySem.F.entry_dict_get ?_ (PySem.F.args_dict_get_2 _ _);show wpAny _ _ (dictGet a (.str k t) >>= _) _ _ s2;refine wpAny_bind (uX (ho I2) hd hr ?_);cases hat:KTD.datumAt k D with
  |some b =>
    rw[hat]at q2;exact wpAny_pure ⟨_,rfl,.ref b,H2,I2.tok _,rfl,q2⟩
  |none =>
    rw[hat]at q2;show wpAny _ _ (Builtin.Dict.missed a (.str k t) >>= _) _ _ _;exact wpAny_bind (wpAny_missed_other hs (wpAny_pure ⟨.none,rfl,.non,H2,I2.tok _,rfl,q2⟩))
end
section
variable {X:Cx}
theorem xx {prog:Program}{w:World}{A:Around}{I l:Addr}{items:Array Value}(hh:A.handled=none) (hIl:I≠l) :
 Walks prog w A I [I,l] [I] items.size (λi v=>items[i]?=some v) (λi h=>h.IsListIter I l i/\h.IsList l items) where
 sub b hb:=by rw[mem_singleton.mp hb];exact mem_cons_self
 frame i h h' st k:=by
  obtain⟨⟨o,ho,r⟩,⟨ol,hol,rl⟩⟩:=st;exact⟨⟨o,k I mem_cons_self _ ho,r⟩,⟨ol,k l (mem_cons_of_mem _ mem_cons_self) _ hol,rl⟩⟩
 item i s Q E hi st k:=by
  refine wpAny_pyNext_list_item st.1 st.2 (Array.getElem?_eq_getElem hi) λh' it' sb=>k _ h' s.toks (Array.getElem?_eq_getElem hi) ⟨it',?_⟩ λb o hb e=>(sb.2 b (λy=>hb (by rw[y];exact mem_singleton.mpr rfl))).trans e
  obtain⟨ol,hol,rl⟩:=st.2;exact⟨ol,(sb.2 l (Ne.symm hIl)).trans hol,rl⟩
 done s Q E st k:=by
  refine wpAny_pyNext_list_end hh st.1 st.2 (by rw[Array.getElem?_eq_none_iff];exact Nat.le_refl _) λh' eb=>k h' s.toks λb o hb e=>?_
  exact eb b o (λy=>hb (by rw[y];exact mem_singleton.mpr rfl)) e
 self i s Q E st k:=wpAny_pyIter_listiter st.1 k
theorem sM:∀ {bs:List Bool}{us:List Value},bC (bs.map V.bl) us->us=bs.map Value.bool
|[],_,.nil=>rfl
|b :: bs,_,.cons r t=>by
  have r':_=Value.bool b:=r;rw[r',sM t];rfl
theorem F5:bootBuiltins "all"=some (.builtin "all"):=by decide +kernel
theorem Bz (hc:X.calm=true):mw X (.builtin "all") (λxs H Q=>∃ (p:Addr) (bs:List Bool),xs=[.ref p]/\SqL X.K H p (bs.map V.bl)/\Q (.bl (bs.all id)) H):=by
 intro pins s σ H xs us Q I r h;obtain⟨p,bs,rfl,hq,q⟩:=h;obtain⟨u,rfl,rx⟩:=mv r;cases rx;obtain⟨its,r',pl,hz⟩:=I.list hq;have hb:=sM r';have il:=pl.isList;refine call_all_walk (wpAny_pyIter_list il ⟨s.heap.objs.size,_,_,_,_,_,λi=>bs.getD i true,rfl,xx (I:=s.heap.objs.size) (l:=p) (items:=its.toArray) (I.ok.hd hc) ?_,⟨⟨_,Heap.get?_push_size _ rfl,rfl,rfl⟩,?_⟩,?_,?_⟩)
 . obtain⟨o,ho,_⟩:=il;exact Ne.symm (ne_of_lt (Heap.lt_size ho))
 . obtain⟨o,ho,rr⟩:=il;exact⟨o,Heap.get?_push_of_some _ ho,rr⟩
 . intro i v s' Q' E' hv hq';have hv':its[i]?=some v:=by rw[<-hv];simp
   rw[hb,getElem?_map]at hv';obtain⟨b,hbi,rfl⟩:=map_eq_some_iff.mp hv';have:bs.getD i true=b:=by rw[getD_eq_getElem?_getD,hbi];rfl
   have hq2:Q' (bs.getD i true) s':=hq';rw[this]at hq2;exact wpAny_truthy_bool hq2
 . intro h' tk k;have e:((List.range its.toArray.size).all λi=>bs.getD i true)=bs.all id:=by
    have hl:its.toArray.size=bs.length:=by rw[size_toArray,hb,length_map]
    rw[hl,Bool.eq_iff_iff,all_eq_true,all_eq_true];constructor
    . intro h x hx;obtain⟨i,hi,rfl⟩:=getElem_of_mem hx;have:=h i (mem_range.mpr hi);rw[getD_eq_getElem?_getD,getElem?_eq_getElem hi]at this;exact this
    . intro h i hi;have hi':=mem_range.mp hi;rw[getD_eq_getElem?_getD,getElem?_eq_getElem hi'];exact h _ (List.getElem_mem hi')
   rw[e];refine⟨.bl (bs.all id),H,I.kept λb o hb=>k b o (λy=>?_) (Heap.get?_push_of_some _ hb),rfl,q⟩;rw[mem_singleton]at y;have:=Heap.lt_size hb;rw[y]at this;exact Nat.lt_irrefl _ this
end
section
variable {X:Cx}
def Gq (K:PySem.W.Frag):V->List V->Hp->VK->Prop:=λx vs H Q=>∃ (sep:Str) (p:Addr) (ys:List Str),x=.str sep/\vs=[.ref p]/\SqL K H p (ys.map V.str)/\(ys.map (·.length)).sum+ys.length * sep.length <= 16777216/\Q (.str (Txt.join sep ys)) H
theorem wm:∀ {ys:List Str}{us:List Value},bC (ys.map V.str) us->StrsAre us ys
|[],_,.nil=>.nil
|y :: ys,_,.cons r t=>by
  obtain⟨tk,e⟩:=r;rw[e];exact .cons _ _ (wm t)
theorem DO:MtR X "str.join" (Gq X.K):=by
 intro pins s σ H x vs v us Q I rx rv h;obtain⟨sep,p,ys,rfl,rfl,hq,hl,q⟩:=h;obtain⟨t,rfl⟩:=rx;obtain⟨u,rfl,ru⟩:=rv.one;cases ru;obtain⟨its,r',pl,hz⟩:=I.list hq;exact join_list pl.isList (wm r') hl λt' k=>⟨.str (Txt.join sep ys),H,I.tok k,⟨t',rfl⟩,q⟩
theorem Ao:mw X (.type "str") (λxs H Q=>(∃ i:Int,xs=[.int i]/\i.natAbs.log2 < 1920/\Q (.str (toString i)) H)\/∃ t,xs=[.str t]/\Q (.str t) H):=by
 intro pins s σ H xs us Q I r h;rcases h with⟨i,rfl,hz,q⟩|⟨x,rfl,q⟩
 . obtain⟨u,rfl,t,rfl⟩:=mv r;exact PySem.P.str_of_int hz ⟨.str _,H,I.tok _,⟨_,rfl⟩,q⟩
 . obtain⟨u,rfl,t,rfl⟩:=mv r;exact PySem.P.str_of_str ⟨.str x,H,I,⟨t,rfl⟩,q⟩
end
theorem wj {X:Cx}{x:Str}{i:Int}{p:Pos}(hg:Gl X x) (hm:∃ t,X.mg x=some (.int i t)) (hdb:(x == ("__debug__":Str))=false:=by decide):PE X (.Name x p) (tC (.int i)):=by
 obtain⟨t,hm⟩:=hm;intro pins s σ H Q I h;exact ik I hg hm ⟨.int i,H,I,⟨t,rfl⟩,h⟩ hdb
def xh (z:HA) (zt:TA') (sa:SA) (c:Addr):Prop:=z.own c\/zt.own c\/sa.own c
structure X5 (w:World) (CH CT CR CS:Addr) (H:Hp) (z:HA) (zt:TA') (sa:SA) (p:RP) (n:Nat) (m:Mem) (rs:Bool->List Wr) (un tk:List Int):Prop where
 hn:Hn CH CR H z sa.x p n un
 tn:Tn CT CR H zt sa.x p tk
 st:StT w CS H sa m rs
 dz:∀ c,z.own c->¬ zt.own c
section
variable {w:World}{CH CT CR CS:Addr}{H H':Hp}{z:HA}{zt:TA'}{sa:SA}{p:RP}{n:Nat}{m m':Mem}{rs rs':Bool->List Wr}{un tk un' tk':List Int}
theorem X5.keep (W:X5 w CH CT CR CS H z zt sa p n m rs un tk) (k:∀ c o,xh z zt sa c->H c=some o->H' c=some o) (ht:∀ b vs,H b=some (.tup vs)->H' b=some (.tup vs)):X5 w CH CT CR CS H' z zt sa p n m rs un tk :=
 ⟨W.hn.keep λc o h=>k c o (.inl h),W.tn.keep λc o h=>k c o (.inr (.inl h)),W.st.keep (λc o h=>k c o (.inr (.inr h))) ht,W.dz⟩
theorem X5.there (W:X5 w CH CT CR CS H z zt sa p n m rs un tk) {c:Addr}(h:xh z zt sa c):∃ o,H c=some o/\∀ vs,o≠.tup vs:=by
 rcases h with h|h|h
 . obtain⟨o,e,⟨_,_,_,s⟩|⟨_,s⟩⟩:=W.hn.there h
   . exact⟨o,e,λvs y=>by rw[y]at s;cases s⟩
   . exact⟨o,e,λvs y=>by rw[y]at s;cases s⟩
 . obtain⟨o,e,⟨_,_,_,s⟩|⟨_,s⟩⟩:=W.tn.there h
   . exact⟨o,e,λvs y=>by rw[y]at s;cases s⟩
   . exact⟨o,e,λvs y=>by rw[y]at s;cases s⟩
 . exact W.st.there h
theorem Gr {p:RP}{st:Addr}{nn:Int}{aw:List Int}(B:Hn CH CR H z st p nn aw) (S:StT w CS H sa m rs) (b:Bool):¬ z.own (sa.l b):=λhc=>by
 obtain⟨o1,q1,s1⟩:=B.there hc;obtain⟨M,r,S',_⟩:=S;obtain⟨ts,e,_⟩:=S'.rw b;rw[e]at q1;cases q1;rcases s1 with⟨_,_,_,s⟩|⟨_,s⟩<;>cases s
theorem FW {p:RP}{st:Addr}{aw:List Int}(B:Tn CT CR H zt st p aw) (S:StT w CS H sa m rs) (b:Bool):¬ zt.own (sa.l b):=λhc=>by
 obtain⟨o1,q1,s1⟩:=B.there hc;obtain⟨M,r,S',_⟩:=S;obtain⟨ts,e,_⟩:=S'.rw b;rw[e]at q1;cases q1;rcases s1 with⟨_,_,_,s⟩|⟨_,s⟩<;>cases s
theorem pV:∀ c∈[z.gd,sa.l false],xh z zt sa c:=λc hc=>by
 rcases mem_cons.mp hc with y|y
 . rw[y];exact .inl (.inr (.inr (.inr rfl)))
 . rw[mem_singleton.mp y];exact .inr (.inr (CZ false))
theorem pO:∀ c∈[zt.gd,sa.l true],xh z zt sa c:=λc hc=>by
 rcases mem_cons.mp hc with y|y
 . rw[y];exact .inr (.inl (.inr (.inr (.inr rfl))))
 . rw[mem_singleton.mp y];exact .inr (.inr (CZ true))
theorem sE {b:Bool}:∀ c∈[sa.l b,sa.hd],xh z zt sa c:=λc hc=>by
 rcases mem_cons.mp hc with y|y
 . rw[y];exact .inr (.inr (CZ b))
 . rw[mem_singleton.mp y];exact .inr (.inr Fg)
theorem X5.hand (W:X5 w CH CT CR CS H z zt sa p n m rs un tk) (hn':Hn CH CR H' z sa.x p n un') (st':StT w CS H' sa m' rs') (kp:Kp [z.gd,sa.l false] H H'):X5 w CH CT CR CS H' z zt sa p n m' rs' un' tk:=by
 refine⟨hn',W.tn.keep λc o hc e=>kp c o (λmm=>?_) e,st',W.dz⟩;rcases mem_cons.mp mm with y|y
 . exact W.dz c (by rw[y];exact .inr (.inr (.inr rfl))) hc
 . exact FW W.tn W.st false (by rw[<-mem_singleton.mp y];exact hc)
theorem X5.heart (W:X5 w CH CT CR CS H z zt sa p n m rs un tk) (tn':Tn CT CR H' zt sa.x p tk') (st':StT w CS H' sa m' rs') (kp:Kp [zt.gd,sa.l true] H H'):X5 w CH CT CR CS H' z zt sa p n m' rs' un tk':=by
 refine⟨W.hn.keep λc o hc e=>kp c o (λmm=>?_) e,tn',st',W.dz⟩;rcases mem_cons.mp mm with y|y
 . exact W.dz c hc (by rw[y];exact .inr (.inr (.inr rfl)))
 . exact Gr W.hn W.st true (by rw[<-mem_singleton.mp y];exact hc)
theorem X5.store (W:X5 w CH CT CR CS H z zt sa p n m rs un tk) {b:Bool}(st':StT w CS H' sa m' rs') (kp:Kp [sa.l b,sa.hd] H H'):X5 w CH CT CR CS H' z zt sa p n m' rs' un tk:=by
 have hx:∀ c∈[sa.l b,sa.hd],(∃ ys,H c=some (.lst ys))\/∃ ee:List DictEntry × Nat,H c=some (ki c ee.1 ee.2):=λc hc=>by
  obtain⟨M,r,S,_⟩:=W.st;rcases mem_cons.mp hc with y|y
  . obtain⟨ts,e,_⟩:=S.rw b;exact .inl ⟨ts,by rw[y];exact e⟩
  . obtain⟨ee,e⟩:=S.me.there;exact .inr ⟨ee,by rw[mem_singleton.mp y];exact e⟩
 exact⟨W.hn.lists kp hx,W.tn.lists kp hx,st',W.dz⟩
end
theorem DV2 {H:Hp}{c:Addr}{x y:Int}(h:H c=some (.tup [.int x,.int y])):DV H (.tuple [.int x,.int y]) (.ref c):=⟨c,_,rfl,h,_,_,rfl,rfl,_,_,rfl,rfl,rfl⟩
theorem lM {H:Hp}:∀ {ds:List PyData}{ts:List V},DVs H ds ts->ts.length=ds.length
|[],_,h=>by cases h;rfl
|d :: ds,_,⟨v,r,h,h1,h2⟩=>by subst h;rw[length_cons,length_cons,lM h2]
theorem lY {xs:List V}{j:Nat}{v:V}(h:xs[j]?=some v):atI xs (j:Int)=some v:=by
 unfold atI ixN;have hl:=(List.getElem?_eq_some_iff.mp h).1;rw[if_pos (by omega),if_pos (by omega)];exact h
inductive Bd where
|up|lies|asleep
instance:DecidableEq Bd:=λa b=>by
 cases a<;>cases b<;>first|exact isTrue rfl|exact isFalse (λh=>by cases h)
def Bd.key:Bd->Str
|.up=>"up"
|.lies=>"lies"
|.asleep=>"asleep"
theorem BW {a b:Bd}(h:a.key=b.key):a=b:=by
 cases a<;>cases b<;>first|rfl|exact absurd h (by decide +kernel)
structure YP where
 p:RP
 n:Nat
 fb:Bool
 fl:Bool
 fk:Bool
structure YP.Ok (q:YP):Prop where
 ok:q.p.Ok
 n9:q.n <= 9
structure YA where
 y:Addr
 ft:Addr
 sa:SA
 z:HA
 zt:TA'
 sl:Addr
 qu:Addr
 hp:Addr
structure YS where
 m:Mem
 rs:Bool->List Wr
 un:List Int
 tk:List Int
 bd:Bool->Bd
 qt:Bool->Bool
 hs:List PyData
def YS.zero:YS:=⟨Mem.zero,λ_=>[],[],[],λ_=>.up,λ_=>true,[]⟩
def yF (a:YA) (q:YP):List (Str × V):=bO "happened" (.ref a.hp) (bO "quiet" (.ref a.qu) (bO "sleepers" (.ref a.sl) (bO "look_sees" (.bl q.fk) (bO "lie_fences" (.bl q.fl) (bO "bell_fences" (.bl q.fb) (bO "heart" (.ref a.zt.h) (bO "hand" (.ref a.z.h) (bO "shelf" (.ref a.sa.x) (bO "faults" (.ref a.ft) (bO "rounds" (.int q.p.R) (bO "size" (.int q.p.s) [])))))))))))
section
variable {a:YA}{q:YP}
theorem cL:(yF a q).lookup ("shelf":Str)=some (.ref a.sa.x):=by unfold yF;repeat (first|rw[a8,if_pos rfl]|rw[a8,if_neg (by decide +kernel)]);try rfl
theorem o3:(yF a q).lookup ("hand":Str)=some (.ref a.z.h):=by unfold yF;repeat (first|rw[a8,if_pos rfl]|rw[a8,if_neg (by decide +kernel)]);try rfl
theorem kY:(yF a q).lookup ("heart":Str)=some (.ref a.zt.h):=by unfold yF;repeat (first|rw[a8,if_pos rfl]|rw[a8,if_neg (by decide +kernel)]);try rfl
theorem CG:(yF a q).lookup ("bell_fences":Str)=some (.bl q.fb):=by unfold yF;repeat (first|rw[a8,if_pos rfl]|rw[a8,if_neg (by decide +kernel)]);try rfl
theorem Fy:(yF a q).lookup ("lie_fences":Str)=some (.bl q.fl):=by unfold yF;repeat (first|rw[a8,if_pos rfl]|rw[a8,if_neg (by decide +kernel)]);try rfl
theorem D5:(yF a q).lookup ("look_sees":Str)=some (.bl q.fk):=by unfold yF;repeat (first|rw[a8,if_pos rfl]|rw[a8,if_neg (by decide +kernel)]);try rfl
theorem bN:(yF a q).lookup ("sleepers":Str)=some (.ref a.sl):=by unfold yF;repeat (first|rw[a8,if_pos rfl]|rw[a8,if_neg (by decide +kernel)]);try rfl
theorem qC:(yF a q).lookup ("quiet":Str)=some (.ref a.qu):=by unfold yF;repeat (first|rw[a8,if_pos rfl]|rw[a8,if_neg (by decide +kernel)]);try rfl
theorem iq:(yF a q).lookup ("happened":Str)=some (.ref a.hp):=by unfold yF;repeat (first|rw[a8,if_pos rfl]|rw[a8,if_neg (by decide +kernel)]);try rfl
theorem jM {f:Str}(h:f ∉ (["size","rounds","faults","shelf","hand","heart","bell_fences","lie_fences","look_sees","sleepers","quiet","happened"]:List Str)):(yF a q).lookup f=none:=by
 simp only[mem_cons,not_mem_nil,or_false,not_or]at h;obtain⟨h1,h2,h3,h4,h5,h6,h7,h8,h9,h10,h11,h12⟩:=h;unfold yF;rw[a8,if_neg h12,a8,if_neg h11,a8,if_neg h10,a8,if_neg h9,a8,if_neg h8,a8,if_neg h7,a8,if_neg h6,a8,if_neg h5,a8,if_neg h4,a8,if_neg h3,a8,if_neg h2,a8,if_neg h1];rfl
end
def YA.lists (a:YA) (c:Addr):Prop:=c=a.sl\/c=a.qu\/c=a.hp
def YA.own (a:YA) (c:Addr):Prop:=c=a.y\/xh a.z a.zt a.sa c\/a.lists c
structure Yn (w:World) (CY CH CT CR CS:Addr) (H:Hp) (a:YA) (q:YP) (S:YS):Prop where
 ob:∃ dx,H a.y=some (.ins CY dx (yF a q))
 x:X5 w CH CT CR CS H a.z a.zt a.sa q.p q.n S.m S.rs S.un S.tk
 sl:H a.sl=some (.lst [.str (S.bd false).key,.str (S.bd true).key])
 qu:H a.qu=some (.lst [.bl (S.qt false),.bl (S.qt true)])
 hp:∃ ts,H a.hp=some (.lst ts)/\DVs H S.hs ts
 fl:∀ d∈S.hs,flD d=true
 d1:∀ c,a.lists c->¬ xh a.z a.zt a.sa c
 d2:a.sl≠a.qu/\a.sl≠a.hp/\a.qu≠a.hp
 d3:¬ xh a.z a.zt a.sa a.y
theorem DVs.fl {H H':Hp}(ht:∀ b vs,H b=some (.tup vs)->H' b=some (.tup vs)):∀ {ds:List PyData}{vs:List V},(∀ d∈ds,flD d=true)->DVs H ds vs->DVs H' ds vs
|[],_,_,h=>h
|d :: ds,_,hf,⟨v,r,e,h1,h2⟩=>⟨v,r,e,DV.fl ht (hf d mem_cons_self) h1,DVs.fl ht (λx hx=>hf x (mem_cons_of_mem _ hx)) h2⟩
section
variable {w:World}{CY CH CT CR CS:Addr}{H H':Hp}{a:YA}{q:YP}{S:YS}
theorem Yn.keep (Y:Yn w CY CH CT CR CS H a q S) (k:∀ c o,a.own c->H c=some o->H' c=some o) (ht:∀ b vs,H b=some (.tup vs)->H' b=some (.tup vs)):Yn w CY CH CT CR CS H' a q S:=by
 obtain⟨dx,hx⟩:=Y.ob;obtain⟨ts,h1,h2⟩:=Y.hp;exact⟨⟨dx,k _ _ (.inl rfl) hx⟩,Y.x.keep (λc o h=>k c o (.inr (.inl h))) ht,k _ _ (.inr (.inr (.inl rfl))) Y.sl,k _ _ (.inr (.inr (.inr (.inl rfl)))) Y.qu,⟨ts,k _ _ (.inr (.inr (.inr (.inr rfl)))) h1,DVs.fl ht Y.fl h2⟩,Y.fl,Y.d1,Y.d2,Y.d3⟩
theorem Yn.same (Y:Yn w CY CH CT CR CS H a q S) (s:bG H H'):Yn w CY CH CT CR CS H' a q S:=Y.keep (λc o _=>s c o) λb vs=>s b _
theorem Yn.list (Y:Yn w CY CH CT CR CS H a q S) {c:Addr}(h:a.lists c):∃ ys,H c=some (.lst ys):=by
 rcases h with rfl|rfl|rfl
 . exact⟨_,Y.sl⟩
 . exact⟨_,Y.qu⟩
 . obtain⟨ts,e,_⟩:=Y.hp;exact⟨_,e⟩
theorem Yn.there (Y:Yn w CY CH CT CR CS H a q S) {c:Addr}(h:a.own c):∃ o,H c=some o/\∀ vs,o≠.tup vs:=by
 rcases h with rfl|h|h
 . obtain⟨dx,e⟩:=Y.ob;exact⟨_,e,λ_ z=>by cases z⟩
 . exact Y.x.there h
 . obtain⟨ys,e⟩:=Y.list h;exact⟨_,e,λ_ z=>by cases z⟩
theorem Yn.tups (Y:Yn w CY CH CT CR CS H a q S) {xs:List Addr}(kp:Kp xs H H') (h:∀ c∈xs,a.own c):∀ b vs,H b=some (.tup vs)->H' b=some (.tup vs):=λb vs e=>kp b _ (λmm=>by
 obtain⟨o,e',nn⟩:=Y.there (h b mm);rw[e']at e;exact nn vs (Option.some.inj e)) e
theorem Yn.parts (Y:Yn w CY CH CT CR CS H a q S) {xs:List Addr}{m:Mem}{rs:Bool->List Wr}{un tk:List Int}(X':X5 w CH CT CR CS H' a.z a.zt a.sa q.p q.n m rs un tk) (kp:Kp xs H H') (h:∀ c∈xs,xh a.z a.zt a.sa c):Yn w CY CH CT CR CS H' a q { S with m:=m,rs:=rs,un:=un,tk:=tk }:=by
 have ht:=Y.tups kp λc hc=>.inr (.inl (h c hc))
 obtain⟨dx,hx⟩:=Y.ob;obtain⟨ts,h1,h2⟩:=Y.hp;have ls:∀ c o,a.lists c->H c=some o->H' c=some o:=λc o hc e=>kp c o (λmm=>Y.d1 c hc (h c mm)) e
 exact⟨⟨dx,kp _ _ (λmm=>Y.d3 (h _ mm)) hx⟩,X',ls _ _ (.inl rfl) Y.sl,ls _ _ (.inr (.inl rfl)) Y.qu,⟨ts,ls _ _ (.inr (.inr rfl)) h1,DVs.fl ht Y.fl h2⟩,Y.fl,Y.d1,Y.d2,Y.d3⟩
theorem Yn.lst_tups (Y:Yn w CY CH CT CR CS H a q S) {c:Addr}(hc:a.lists c) (o:HO):∀ b vs,H b=some (.tup vs)->upd H c o b=some (.tup vs):=λb vs e=>by
 obtain⟨ys,e'⟩:=Y.list hc;rw[aa (λy=>by rw[y,e']at e;cases e)];exact e
theorem Yn.lst_own (Y:Yn w CY CH CT CR CS H a q S) {c:Addr}(hc:a.lists c) (o:HO):∀ b u,xh a.z a.zt a.sa b->H b=some u->upd H c o b=some u:=λb u hb e=>by
 rw[aa (λy=>Y.d1 c hc (by rw[<-y];exact hb))];exact e
theorem Yn.lst_y (Y:Yn w CY CH CT CR CS H a q S) {c:Addr}(hc:a.lists c) (o:HO):∃ dx,upd H c o a.y=some (.ins CY dx (yF a q)):=by
 obtain⟨dx,hx⟩:=Y.ob;obtain⟨ys,e'⟩:=Y.list hc;exact⟨dx,by rw[aa (λy=>by rw[y,e']at hx;cases hx)];exact hx⟩
theorem Yn.setSl (Y:Yn w CY CH CT CR CS H a q S) (b:Bool) (x:Bd) {ys:List V}(h:ys=[.str (ba S.bd b x false).key,.str (ba S.bd b x true).key]):Yn w CY CH CT CR CS (upd H a.sl (.lst ys)) a q { S with bd:=ba S.bd b x }:=by
 have hc:a.lists a.sl:=.inl rfl;obtain⟨ts,h1,h2⟩:=Y.hp;have ht:=Y.lst_tups hc (.lst ys);exact⟨Y.lst_y hc _,Y.x.keep (Y.lst_own hc _) ht,by rw[a6,h],by rw[aa (Ne.symm Y.d2.1)];exact Y.qu,⟨ts,by rw[aa (Ne.symm Y.d2.2.1)];exact h1,DVs.fl ht Y.fl h2⟩,Y.fl,Y.d1,Y.d2,Y.d3⟩
theorem Yn.setQu (Y:Yn w CY CH CT CR CS H a q S) (b x:Bool) {ys:List V}(h:ys=[.bl (ba S.qt b x false),.bl (ba S.qt b x true)]):Yn w CY CH CT CR CS (upd H a.qu (.lst ys)) a q { S with qt:=ba S.qt b x }:=by
 have hc:a.lists a.qu:=.inr (.inl rfl);obtain⟨ts,h1,h2⟩:=Y.hp;have ht:=Y.lst_tups hc (.lst ys);exact⟨Y.lst_y hc _,Y.x.keep (Y.lst_own hc _) ht,by rw[aa Y.d2.1];exact Y.sl,by rw[a6,h],⟨ts,by rw[aa (Ne.symm Y.d2.2.2)];exact h1,DVs.fl ht Y.fl h2⟩,Y.fl,Y.d1,Y.d2,Y.d3⟩
theorem Yn.setHp (Y:Yn w CY CH CT CR CS H a q S) {x:PyData}{v:V}{ts:List V}(hts:H a.hp=some (.lst ts)) (hv:DV H x v) (hx:flD x=true):Yn w CY CH CT CR CS (upd H a.hp (.lst (ts++[v]))) a q { S with hs:=S.hs++[x] }:=by
 have hc:a.lists a.hp:=.inr (.inr rfl);obtain⟨ts',h1,h2⟩:=Y.hp;rw[hts]at h1;cases h1;have ht:=Y.lst_tups hc (.lst (ts++[v]));have hf:∀ d∈S.hs++[x],flD d=true:=λd hd=>by
  rcases mem_append.mp hd with h|h
  . exact Y.fl d h
  . rw[mem_singleton.mp h];exact hx
 exact⟨Y.lst_y hc _,Y.x.keep (Y.lst_own hc _) ht,by rw[aa Y.d2.2.1];exact Y.sl,by rw[aa Y.d2.2.2];exact Y.qu,⟨_,a6,DVs.fl ht hf (DVs.snoc h2 hv)⟩,hf,Y.d1,Y.d2,Y.d3⟩
end
inductive Dd where
|ask (wt:Int)|collect|take|answer (nm wt:Int)|bell (b:Bool)|lie (b:Bool)|look (b:Bool)|drain (b:Bool)
def Dd.vs:Dd->List V
|.ask wt=>[.str "ask",.int wt]
|.collect=>[.str "collect"]
|.take=>[.str "take"]
|.answer nm wt=>[.str "answer",.int nm,.int wt]
|.bell b=>[.str "bell",.int (sdI b)]
|.lie b=>[.str "lie",.int (sdI b)]
|.look b=>[.str "look",.int (sdI b)]
|.drain b=>[.str "drain",.int (sdI b)]
def Dd.Ok:Dd->Prop
|.ask wt=>-1000000000 <= wt/\wt <= 1000000000
|.answer _ wt=>-1000000000 <= wt/\wt <= 1000000000
|_=>True
inductive Rf where
|deed|full|name|task
def Dd.chk (q:YP) (S:YS):Dd->Option Rf
|.drain b=>if S.rs b=[] then some .deed else none
|.look b=>if S.bd b=.lies then none else some .deed
|.bell b=>if S.bd b=.up then none else some .deed
|.lie b=>if S.bd b=.up then none else some .deed
|.collect=>if S.bd false=.up then none else some .deed
|.take=>if S.bd true=.up then none else some .deed
|.ask _=>if S.bd false=.up then (if az q.p S.m (S.rs false) .asked .taken=q.p.s then some .full else match bw q.n S.un with|none=>some .name|some _=>none) else some .deed
|.answer nm _=>if S.bd true=.up then (if S.tk.contains nm=false then some .task else if az q.p S.m (S.rs true) .answered .handed=q.p.s then some .full else none) else some .deed
section
variable {K:PySem.W.Frag}
theorem Gp:kitOne K (.type "int") (.type "int")=some true:=by rfl
theorem G0:kitOne K (.type "int") (.type "bool")=some false:=by rfl
theorem Gy:kitOne K (.type "str") (.type "str")=some true:=by rfl
theorem FU:kitOne K (.type "str") (.type "tuple")=some false:=by rfl
end
def gj (x:Int) (k:Str):Bool:=if k="worth" then decide (-1000000000 <= x) && decide (x <= 1000000000) else if k="side" then decide (x=0) || decide (x=1) else true
def Dd.word:Dd->Str
|.ask _=>"ask"
|.collect=>"collect"
|.take=>"take"
|.answer _ _=>"answer"
|.bell _=>"bell"
|.lie _=>"lie"
|.look _=>"look"
|.drain _=>"drain"
def Dd.args:Dd->List Int
|.ask wt=>[wt]
|.collect=>[]
|.take=>[]
|.answer nm wt=>[nm,wt]
|.bell b=>[sdI b]
|.lie b=>[sdI b]
|.look b=>[sdI b]
|.drain b=>[sdI b]
def Dd.ks:Dd->List Str
|.ask _=>["worth"]
|.collect=>[]
|.take=>[]
|.answer _ _=>["name","worth"]
|_=>["side"]
def Dd.side:Dd->Bool
|.ask _=>false
|.collect=>false
|.take=>true
|.answer _ _=>true
|.bell b=>b
|.lie b=>b
|.look b=>b
|.drain b=>b
theorem Dd.vs_eq (x:Dd):x.vs=.str x.word :: x.args.map V.int:=by cases x<;>rfl
theorem Dd.len (x:Dd):x.args.length=x.ks.length/\x.args.length <= 2:=by cases x<;>exact⟨rfl,by simp[Dd.args]⟩
theorem mM (b:Bool):gj (sdI b) "side"=true:=by cases b<;>decide +kernel
theorem Dd.part {x:Dd}(h:x.Ok):∀ (i:Nat) (y:Int) (k:Str),x.args[i]?=some y->x.ks[i]?=some k->gj y k=true:=by
 intro i y k hy hk;have wk:∀ {wt:Int},(-1000000000 <= wt/\wt <= 1000000000)->gj wt "worth"=true:=λ{wt} h=>by
  unfold gj;rw[if_pos rfl,decide_eq_true h.1,decide_eq_true h.2];rfl
 have nmk:∀ {nm:Int},gj nm "name"=true:=λ{nm}=>by
  unfold gj;rw[if_neg (by decide +kernel),if_neg (by decide +kernel)]
 cases x with
|ask wt =>
  match i,hy,hk with
 |0,hy,hk=>cases hy;cases hk;exact wk h
 |_+1,hy,_=>cases hy
|collect=>cases hy
|take=>cases hy
|answer nm wt =>
  match i,hy,hk with
 |0,hy,hk=>cases hy;cases hk;exact nmk
 |1,hy,hk=>cases hy;cases hk;exact wk h
 |_+2,hy,_=>cases hy
|bell b =>
  match i,hy,hk with
 |0,hy,hk=>cases hy;cases hk;exact mM b
 |_+1,hy,_=>cases hy
|lie b =>
  match i,hy,hk with
 |0,hy,hk=>cases hy;cases hk;exact mM b
 |_+1,hy,_=>cases hy
|look b =>
  match i,hy,hk with
 |0,hy,hk=>cases hy;cases hk;exact mM b
 |_+1,hy,_=>cases hy
|drain b =>
  match i,hy,hk with
 |0,hy,hk=>cases hy;cases hk;exact mM b
 |_+1,hy,_=>cases hy
theorem Aq (xs:List V) (k:Nat):tf xs none (some (k:Int))=xs.take k:=by
 unfold tf;rw[HT.sIx_nat,show HT.sIx xs.length 0 none=0 from rfl,List.drop_zero,Nat.sub_zero];by_cases h:k <= xs.length
 . rw[Nat.min_eq_left h]
 . rw[Nat.min_eq_right (by omega),take_of_length_le (Nat.le_refl _),take_of_length_le (by omega)]
theorem qc (xs:List V) (k:Nat):tf xs (some (k:Int)) none=xs.drop k:=by
 unfold tf;rw[HT.sIx_nat,show HT.sIx xs.length xs.length none=xs.length from rfl];by_cases h:k <= xs.length
 . rw[Nat.min_eq_left h,take_of_length_le (by rw[length_drop];exact Nat.le_refl _)]
 . rw[Nat.min_eq_right (by omega),List.drop_of_length_le (Nat.le_refl _),List.drop_of_length_le (by omega),take_nil]
end L2
namespace L2
theorem Dd.grp (x:Dd):((x.word="ask"\/x.word="collect")/\x.side=false)\/((x.word="take"\/x.word="answer")/\x.side=true)\/((x.word="bell"\/x.word="lie"\/x.word="look"\/x.word="drain")/\x.args=[sdI x.side]):=by
 cases x
 . exact .inl ⟨.inl rfl,rfl⟩
 . exact .inl ⟨.inr rfl,rfl⟩
 . exact .inr (.inl ⟨.inl rfl,rfl⟩)
 . exact .inr (.inl ⟨.inr rfl,rfl⟩)
 . exact .inr (.inr ⟨.inl rfl,rfl⟩)
 . exact .inr (.inr ⟨.inr (.inl rfl),rfl⟩)
 . exact .inr (.inr ⟨.inr (.inr (.inl rfl)),rfl⟩)
 . exact .inr (.inr ⟨.inr (.inr (.inr rfl)),rfl⟩)
end L2
namespace L2
open PySem
def Dd.need:Dd->Bd
|.look _=>.lies
|_=>.up
theorem Dd.chk_bed {q:YP}{S:YS}{x:Dd}(hd:∀ b,x≠.drain b) (h:S.bd x.side≠x.need):x.chk q S=some .deed:=by
 cases x
 . exact if_neg h
 . exact if_neg h
 . exact if_neg h
 . exact if_neg h
 . exact if_neg h
 . exact if_neg h
 . exact if_neg h
 . exact absurd rfl (hd _)
theorem Dd.word_drain (x:Dd):x.word="drain" ↔ ∃ b,x=.drain b:=by
 constructor
 . intro h;cases x with
  |drain b=>exact⟨b,rfl⟩
  |ask wt=>exact absurd (show ("ask":Str)="drain" from h) (by decide +kernel)
  |collect=>exact absurd (show ("collect":Str)="drain" from h) (by decide +kernel)
  |take=>exact absurd (show ("take":Str)="drain" from h) (by decide +kernel)
  |answer nm wt=>exact absurd (show ("answer":Str)="drain" from h) (by decide +kernel)
  |bell b=>exact absurd (show ("bell":Str)="drain" from h) (by decide +kernel)
  |lie b=>exact absurd (show ("lie":Str)="drain" from h) (by decide +kernel)
  |look b=>exact absurd (show ("look":Str)="drain" from h) (by decide +kernel)
 . rintro⟨b,rfl⟩;rfl
theorem Dd.word_look (x:Dd):(x.word="look"/\x.need=.lies/\∃ b,x=.look b)\/(x.word≠"look"/\x.need=.up):=by
 cases x with
|look b=>exact .inl ⟨rfl,rfl,b,rfl⟩
|ask wt=>exact .inr ⟨show ¬ ("ask":Str)="look" by decide +kernel,rfl⟩
|collect=>exact .inr ⟨show ¬ ("collect":Str)="look" by decide +kernel,rfl⟩
|take=>exact .inr ⟨show ¬ ("take":Str)="look" by decide +kernel,rfl⟩
|answer nm wt=>exact .inr ⟨show ¬ ("answer":Str)="look" by decide +kernel,rfl⟩
|bell b=>exact .inr ⟨show ¬ ("bell":Str)="look" by decide +kernel,rfl⟩
|lie b=>exact .inr ⟨show ¬ ("lie":Str)="look" by decide +kernel,rfl⟩
|drain b=>exact .inr ⟨show ¬ ("drain":Str)="look" by decide +kernel,rfl⟩
theorem Dd.word_aa (x:Dd):(∃ wt,x=.ask wt)\/(∃ nm wt,x=.answer nm wt)\/(x.word≠"ask"/\x.word≠"answer"/\∀ (q:YP) (S:YS),(∀ b,x≠.drain b)->S.bd x.side=x.need->x.chk q S=none):=by
 cases x with
|ask wt=>exact .inl ⟨_,rfl⟩
|answer nm wt=>exact .inr (.inl ⟨_,_,rfl⟩)
|collect=>exact .inr (.inr ⟨show ¬ ("collect":Str)="ask" by decide +kernel,show ¬ ("collect":Str)="answer" by decide +kernel,λq S _ h=>if_pos h⟩)
|take=>exact .inr (.inr ⟨show ¬ ("take":Str)="ask" by decide +kernel,show ¬ ("take":Str)="answer" by decide +kernel,λq S _ h=>if_pos h⟩)
|bell b=>exact .inr (.inr ⟨show ¬ ("bell":Str)="ask" by decide +kernel,show ¬ ("bell":Str)="answer" by decide +kernel,λq S _ h=>if_pos h⟩)
|lie b=>exact .inr (.inr ⟨show ¬ ("lie":Str)="ask" by decide +kernel,show ¬ ("lie":Str)="answer" by decide +kernel,λq S _ h=>if_pos h⟩)
|look b=>exact .inr (.inr ⟨show ¬ ("look":Str)="ask" by decide +kernel,show ¬ ("look":Str)="answer" by decide +kernel,λq S _ h=>if_pos h⟩)
|drain b=>exact .inr (.inr ⟨show ¬ ("drain":Str)="ask" by decide +kernel,show ¬ ("drain":Str)="answer" by decide +kernel,λq S h _=>absurd rfl (h b)⟩)
theorem D7 {a b:Bd}(h:a≠b):V.str a.key≠V.str b.key:=λy=>h (BW (by injection y))
def mn:PyData->Str
|.str t=>t
|.tuple [.str t,.int i]=>Txt.join " " [t,toString i]
|_=>""
inductive Ck where
|c (k:Cn)
|p (g:Bool) (i:Int)
def Ck.key:Ck->PyData
|.c k=>.str k.key
|.p g i=>pk g i
def dR:List Ck:=[.p true 0,.p true 1,.p true 2,.p true 3,.p true 4,.p true 5,.p true 6,.p true 7,.c .answered,.p false 0,.p false 1,.p false 2,.p false 3,.p false 4,.p false 5,.p false 6,.p false 7,.c .asked,.c .hs,.c .handed,.c .ts,.c .taken]
instance (a b:Str):Decidable (ltS a b):=inferInstanceAs (Decidable (a.cps.toList < b.cps.toList))
theorem zR:(dR.map λc=>mn c.key).Pairwise ltS:=by decide +kernel
theorem wg:∀ k∈i3,∃ c∈dR,c.key=k:=by
 intro k hk;simp only[i3,mem_cons,not_mem_nil,or_false]at hk;rcases hk with rfl|rfl|rfl|rfl|rfl|rfl|rfl|rfl|rfl|rfl|rfl|rfl|rfl|rfl|rfl|rfl|rfl|rfl|rfl|rfl|rfl|rfl
 . exact⟨.c .asked,by simp[dR],rfl⟩
 . exact⟨.c .taken,by simp[dR],rfl⟩
 . exact⟨.c .answered,by simp[dR],rfl⟩
 . exact⟨.c .handed,by simp[dR],rfl⟩
 . exact⟨.c .hs,by simp[dR],rfl⟩
 . exact⟨.c .ts,by simp[dR],rfl⟩
 . exact⟨.p false 0,by simp[dR],rfl⟩
 . exact⟨.p false 1,by simp[dR],rfl⟩
 . exact⟨.p false 2,by simp[dR],rfl⟩
 . exact⟨.p false 3,by simp[dR],rfl⟩
 . exact⟨.p false 4,by simp[dR],rfl⟩
 . exact⟨.p false 5,by simp[dR],rfl⟩
 . exact⟨.p false 6,by simp[dR],rfl⟩
 . exact⟨.p false 7,by simp[dR],rfl⟩
 . exact⟨.p true 0,by simp[dR],rfl⟩
 . exact⟨.p true 1,by simp[dR],rfl⟩
 . exact⟨.p true 2,by simp[dR],rfl⟩
 . exact⟨.p true 3,by simp[dR],rfl⟩
 . exact⟨.p true 4,by simp[dR],rfl⟩
 . exact⟨.p true 5,by simp[dR],rfl⟩
 . exact⟨.p true 6,by simp[dR],rfl⟩
 . exact⟨.p true 7,by simp[dR],rfl⟩
def Mem.wd (m:Mem):Ck->Option PyData
|.c k=>if m.c k=0 then none else some (.int (m.c k))
|.p g i=>(m.p g i).map λnw=>.tuple [.int nw.1,.int nw.2]
def gP (m:Mem):List (PyData × PyData):=dR.filterMap λc=>(m.wd c).map λd=>(c.key,d)
def nzY (p:PyData × V):Bool:=decide (p.2≠.int 0)
theorem yb (a:Str):¬ ltS a a:=λh=>List.lt_irrefl _ h
theorem vN (m:Mem):(gP m).Pairwise λa b=>ltS (mn a.1) (mn b.1):=by
 unfold gP;have h:=zR;rw[pairwise_map]at h;rw[List.pairwise_filterMap];refine Pairwise.imp ?_ h;intro a b hab x hx y hy;obtain⟨d1,_,rfl⟩:=map_eq_some_iff.mp hx;obtain⟨d2,_,rfl⟩:=map_eq_some_iff.mp hy;exact hab
theorem jL {M:List (PyData × V)}(hn:(M.map (·.1)).Nodup) (hk:∀ q∈M,MX.kd q.1=true) {k:PyData}{v:V}(h:(k,v)∈M):cH M k=some v:=by
 induction M with
|nil=>cases h
|cons q M ih =>
  unfold cH;rw[find?_cons];rw[map_cons,nodup_cons]at hn;rcases mem_cons.mp h with e|e
  . rw[<-e];rw[show PyData.eqv k k=true from cO (by have:=hk q mem_cons_self;rw[<-e]at this;exact this)];rfl
  . have hne:PyData.eqv q.1 k=false:=by
     cases z:PyData.eqv q.1 k with
    |false=>rfl
    |true =>
      have:=(MX.eqv_iff _ _ (hk q mem_cons_self) (hk (k,v) (mem_cons_of_mem _ e))).mp z;exact absurd (by rw[this];exact mem_map.mpr ⟨(k,v),e,rfl⟩) hn.1
    rw[hne];exact ih hn.2 (λq hq=>hk q (mem_cons_of_mem _ hq)) e
theorem nR {M:List (PyData × V)}(hk:∀ q∈M,MX.kd q.1=true) {k:PyData}(hkk:MX.kd k=true) {v:V}(h:cH M k=some v):(k,v)∈M:=by
 unfold cH at h;obtain⟨q,hq,rfl⟩:=map_eq_some_iff.mp h;have h1:=List.find?_some hq;have h2:=List.mem_of_find?_eq_some hq;have:=(MX.eqv_iff _ _ (hk q h2) hkk).mp h1;rw[<-this];exact h2
theorem D8 {H:Hp}{M:List (PyData × V)}{m:Mem}(R:MemR H M m) (hn:(M.map (·.1)).Nodup) (c:Ck):(m.wd c=none/\∀ v,(c.key,v)∈M->v=.int 0)\/∃ d v,m.wd c=some d/\(c.key,v)∈M/\v≠.int 0/\DV H d v:=by
 have hk:∀ q∈M,MX.kd q.1=true:=R.kk;cases c with
|c k =>
  have hc:=R.c k;by_cases h0:m.c k=0
  . refine .inl ⟨if_pos h0,λv hv=>?_⟩;rw[show cH M (.str k.key)=some v from jL hn hk hv]at hc;rw[h0]at hc;exact hc
  . refine .inr ⟨.int (m.c k),.int (m.c k),if_neg h0,?_,λy=>h0 (by injection y),rfl⟩;cases hl:cH M (.str k.key) with
   |none =>
     rw[hl]at hc;have:V.int 0=V.int (m.c k):=hc;exact absurd (by injection this with this;exact this.symm) h0
   |some v =>
     rw[hl]at hc;have:v=.int (m.c k):=hc;rw[<-this];exact nR hk (oW k) hl
|p g i =>
  rcases R.p g i with⟨a,b⟩|⟨nm,wt,v,a,b,d⟩
  . refine .inl ⟨by show (m.p g i).map _=none;rw[a];rfl,λv hv=>?_⟩;rw[show cH M (pk g i)=some v from jL hn hk hv]at b;cases b
  . refine .inr ⟨.tuple [.int nm,.int wt],v,by show (m.p g i).map _=_;rw[a];rfl,nR hk (nP g i) b,λy=>?_,d⟩;rw[y]at d;obtain⟨_,_,e,_⟩:=d;cases e
theorem tP {H:Hp}{M:List (PyData × V)}{m:Mem}(R:MemR H M m) (hn:(M.map (·.1)).Nodup):∀ p∈gP m,∃ v,(p.1,v)∈M.filter nzY/\DV H p.2 v:=λp hp'=>by
 obtain⟨c,hc,e⟩:=mem_filterMap.mp hp';obtain⟨d,hd,rfl⟩:=map_eq_some_iff.mp e;rcases D8 R hn c with⟨z,_⟩|⟨d',v,e',hv,nv,dv⟩
 . rw[z]at hd;cases hd
 . rw[hd]at e';cases e';exact⟨v,mem_filter.mpr ⟨hv,decide_eq_true nv⟩,dv⟩
theorem wL {H:Hp}{M:List (PyData × V)}{m:Mem}(R:MemR H M m) (hn:(M.map (·.1)).Nodup):((M.filter nzY).map (·.1)).Perm ((gP m).map (·.1)):=by
 have hcn:((gP m).map (·.1)).Nodup:=by
  unfold Nodup;rw[pairwise_map];exact Pairwise.imp (λ{a b} (h:ltS (mn a.1) (mn b.1)) (e:a.1=b.1)=>yb (mn b.1) (by rw[e]at h;exact h)) (vN m)
 have hqn:((M.filter nzY).map (·.1)).Nodup:=hn.sublist ((List.filter_sublist).map _);rw[List.perm_ext_iff_of_nodup hqn hcn];intro k;refine⟨λhk=>?_,λhk=>?_⟩
 . obtain⟨⟨k',v⟩,hq,rfl⟩:=mem_map.mp hk;have hm:=mem_filter.mp hq;obtain⟨c,hc,ek⟩:=wg _ (R.ks _ hm.1);rcases D8 R hn c with⟨_,z⟩|⟨d,v',e,_,_,_⟩
   . rw[ek]at z;have:=z v hm.1;rw[this]at hm;exact absurd hm.2 (by unfold nzY;simp)
   . exact mem_map.mpr ⟨(c.key,d),mem_filterMap.mpr ⟨c,hc,by rw[e];rfl⟩,ek⟩
 . obtain⟨p,hp',rfl⟩:=mem_map.mp hk;obtain⟨v,hv,_⟩:=tP R hn p hp';exact mem_map.mpr ⟨(p.1,v),hv,rfl⟩
theorem A0 {H:Hp}{M qs:List (PyData × V)}{m:Mem}(R:MemR H M m) (hn:(M.map (·.1)).Nodup) (hp:qs.Perm (M.filter nzY)) (hs:qs.Pairwise λa b=>leS (mn a.1) (mn b.1)) :
 Paired (λ(kv:PyData × V) (p:PyData × PyData)=>kv.1=p.1/\DV H p.2 kv.2) qs (gP m):=by
 have hcl:=vN m;have mem2:=tP R hn;have pm:(qs.map (·.1)).Perm ((gP m).map (·.1)):=(hp.map _).trans (wL R hn);have s1:(qs.map (·.1)).Pairwise λa b=>leS (mn a) (mn b):=by rw[pairwise_map];exact hs
 have s2:((gP m).map (·.1)).Pairwise λa b=>ltS (mn a) (mn b):=by rw[pairwise_map];exact hcl
 have inj:∀ a∈(gP m).map (·.1),∀ b∈(gP m).map (·.1),mn a=mn b->a=b:=by
  intro a ha b hb e;obtain⟨i,hi,rfl⟩:=getElem_of_mem ha;obtain⟨j,hj,rfl⟩:=getElem_of_mem hb;rw[List.pairwise_iff_getElem]at s2;rcases Nat.lt_trichotomy i j with h|h|h
  . exact absurd (s2 i j hi hj h) (by rw[e];exact yb _)
  . subst h;rfl
  . exact absurd (s2 j i hj hi h) (by rw[e];exact yb _)
 have eqk:qs.map (·.1)=(gP m).map (·.1):=by
  refine List.Perm.eq_of_pairwise (le:=λa b=>leS (mn a) (mn b)) ?_ s1 (Pairwise.imp (λh h'=>List.lt_asymm h h') s2) pm;intro a b ha hb h1 h2;exact inj a (pm.mem_iff.mp ha) b hb (by
   have:(mn a).cps.toList=(mn b).cps.toList:=List.le_antisymm (not_lt.mp h1) (not_lt.mp h2);cases ha':mn a;cases hb':mn b;rw[ha',hb']at this;congr 1;exact Array.toList_inj.mp this)
 have go:∀ {qs:List (PyData × V)} {cs:List (PyData × PyData)},qs.map (·.1)=cs.map (·.1)->(∀ kv∈qs,kv∈M)->(∀ p∈cs,∃ v,(p.1,v)∈M.filter nzY/\DV H p.2 v)->Paired (λ(kv:PyData × V) (p:PyData × PyData)=>kv.1=p.1/\DV H p.2 kv.2) qs cs:=by
  intro qs
  induction qs with
 |nil =>
   intro cs e _ _;cases cs with
  |nil=>exact .nil
  |cons=>cases e
 |cons kv qs ih =>
   intro cs e h1 h2;cases cs with
  |nil=>cases e
  |cons p cs =>
    rw[map_cons,map_cons]at e;injection e with e1 e2
    refine .cons ⟨e1,?_⟩ (ih e2 (λx hx=>h1 x (mem_cons_of_mem _ hx)) λx hx=>h2 x (mem_cons_of_mem _ hx));obtain⟨v,hv,dv⟩:=h2 p mem_cons_self;have hv':=(mem_filter.mp hv).1;have a1:=jL hn R.kk hv';have a2:=jL hn R.kk (show (p.1,kv.2)∈M by rw[<-e1];exact h1 kv mem_cons_self);rw[a1]at a2;cases a2;exact dv
 exact go eqk (λkv hkv=>(mem_filter.mp (hp.mem_iff.mp hkv)).1) mem2
def jl:Bool->Cn
|false=>.hs
|true=>.ts
def Mem.putAllY (m:Mem) (row:List Wr):Mem:=row.foldl Mem.put m
def YS.fence (S:YS) (b:Bool):YS:={ S with m:=S.m.putAllY (S.rs b),rs:=ba S.rs b [] }
def YS.wr (S:YS) (b:Bool) (x:Wr):YS:={ S with rs:=ba S.rs b (S.rs b++[x]) }
def l6 (wd:Str) (x y:PyData):PyData:=.tuple [.str wd,x,y]
def swT (q:YP) (S:YS):Bool->Bool
|false=>decide (az q.p S.m (S.rs false) .answered .handed≠0)
|true=>decide (az q.p S.m (S.rs true) .asked .taken≠0)
def Dd.run (q:YP) (S:YS):Dd->PyData × YS
|.ask wt=>match bw q.n S.un with
 |some nm=>(.int nm,{ S with rs:=ba S.rs false (S.rs false++lZ q.p S.m (S.rs false) false .asked nm wt),un:=S.un++[nm],qt:=ba S.qt false false,hs:=S.hs++[l6 "asked" (.int nm) (.int wt)] })
 |none=>(.none,S)
|.collect=>if az q.p S.m (S.rs false) .answered .handed=0 then (.none,S) else match rdP S.m (S.rs false) true (rdC S.m (S.rs false) .handed % q.p.s) with
 |some nw=>(.tuple [.int nw.1,.int nw.2],{ S with rs:=ba S.rs false (S.rs false++[dl q.p S.m (S.rs false) .handed]),un:=S.un.filter (λk=>decide (k≠nw.1)),hs:=S.hs++[l6 "handed" (.int nw.1) (.int nw.2)] })
 |none=>(.tuple [.none,.none],{ S with rs:=ba S.rs false (S.rs false++[dl q.p S.m (S.rs false) .handed]),hs:=S.hs++[l6 "handed" .none .none] })
|.take=>if az q.p S.m (S.rs true) .asked .taken=0 then (.none,S) else match rdP S.m (S.rs true) false (rdC S.m (S.rs true) .taken % q.p.s) with
 |some nw=>(.tuple [.int nw.1,.int nw.2],{ S with rs:=ba S.rs true (S.rs true++[dl q.p S.m (S.rs true) .taken]),tk:=gM S.tk nw.1,hs:=S.hs++[l6 "taken" (.int nw.1) (.int nw.2)] })
 |none=>(.tuple [.none,.none],{ S with rs:=ba S.rs true (S.rs true++[dl q.p S.m (S.rs true) .taken]),hs:=S.hs++[l6 "taken" .none .none] })
|.answer nm wt=>(.none,{ S with rs:=ba S.rs true (S.rs true++lZ q.p S.m (S.rs true) true .answered nm wt),tk:=S.tk.filter (λk=>decide (k≠nm)),qt:=ba S.qt true false,hs:=S.hs++[l6 "answered" (.int nm) (.int wt)] })
|.bell b =>
  let S1:=if q.fb then S.fence b else S
  let S2:={ S1 with qt:=ba S1.qt b true }
  if rdC S2.m (S2.rs b) (jl (!b))≠1 then (.bool false,S2) else if S2.bd (!b)=.asleep then (.bool true,({ S2 with bd:=ba S2.bd (!b) .up }:YS).wr (!b) (.c (jl (!b)) 0)) else (.bool true,S2)
|.lie b =>
  let S1:=S.wr b (.c (jl b) 1);let S2:=if q.fl then S1.fence b else S1
  (.none,{ S2 with bd:=ba S2.bd b .lies })
|.look b=>if q.fk=true/\swT q S b=true then (.bool true,{ (S.wr b (.c (jl b) 0)) with bd:=ba S.bd b .up }) else (.bool false,{ S with bd:=ba S.bd b .asleep })
|.drain b=>match S.rs b with
 |x :: rest=>(.none,{ S with m:=S.m.put x,rs:=ba S.rs b rest })
 |[]=>(.none,S)
structure YI (q:YP) (S:YS) (L:Nat):Prop where
 und:Nms q.n S.un
 tkd:Nms 9 S.tk
 len:∀ b,(S.rs b).length <= L
 hl:S.hs.length <= L
theorem YI.zero (q:YP):YI q YS.zero 0:=⟨Nms.nil _,Nms.nil _,λ_=>Nat.le_refl _,Nat.le_refl _⟩
theorem YI.mono {q:YP}{S:YS}{L L':Nat}(h:YI q S L) (hl:L <= L'):YI q S L':=⟨h.und,h.tkd,λb=>Nat.le_trans (h.len b) hl,Nat.le_trans h.hl hl⟩
def Rf.key:Rf->Str
|.deed=>"deed"
|.full=>"full"
|.name=>"name"
|.task=>"task"
theorem Rf.key_ne (r:Rf):r.key≠"none":=by cases r<;>decide +kernel
def Dd.out (q:YP) (S:YS) (x:Dd):Str × PyData × YS:=match x.chk q S with
|none=>("none",(x.run q S).1,(x.run q S).2)
|some r=>(r.key,.none,S)
theorem Dd.out_none {q:YP}{S:YS}{x:Dd}(h:x.chk q S=none):x.out q S=(("none":Str),(x.run q S).1,(x.run q S).2):=by unfold Dd.out;rw[h]
theorem Dd.out_some {q:YP}{S:YS}{x:Dd}{r:Rf}(h:x.chk q S=some r):x.out q S=(r.key,.none,S):=by unfold Dd.out;rw[h]
def Fch (d:PyData):Prop:=d=.none\/d=.tuple [.none,.none]\/∃ a b:Int,d=.tuple [.int a,.int b]
theorem qQ (q:YP) (S:YS):Fch (Dd.take.run q S).1:=by
 unfold Dd.run;by_cases h:az q.p S.m (S.rs true) .asked .taken=0
 . rw[if_pos h];exact .inl rfl
 . rw[if_neg h];cases rdP S.m (S.rs true) false (rdC S.m (S.rs true) .taken % q.p.s) with
  |none=>exact .inr (.inl rfl)
  |some nw=>exact .inr (.inr ⟨_,_,rfl⟩)
theorem jR (q:YP) (S:YS):Fch (Dd.collect.run q S).1:=by
 unfold Dd.run;by_cases h:az q.p S.m (S.rs false) .answered .handed=0
 . rw[if_pos h];exact .inl rfl
 . rw[if_neg h];cases rdP S.m (S.rs false) true (rdC S.m (S.rs false) .handed % q.p.s) with
  |none=>exact .inr (.inl rfl)
  |some nw=>exact .inr (.inr ⟨_,_,rfl⟩)
def Dd.ftc:Dd->Prop
|.take=>True
|.collect=>True
|_=>False
theorem Dt {q:YP}{S:YS}{x:Dd}(h:x.ftc):Fch (x.out q S).2.1:=by
 cases hc:x.chk q S with
|some r=>rw[Dd.out_some hc];exact .inl rfl
|none =>
  rw[Dd.out_none hc];cases x with
 |take=>exact qQ q S
 |collect=>exact jR q S
 |ask wt=>exact h.elim
 |answer nm wt=>exact h.elim
 |bell b=>exact h.elim
 |lie b=>exact h.elim
 |look b=>exact h.elim
 |drain b=>exact h.elim
theorem Fch.fl {d:PyData}(h:Fch d):flD d=true:=by
 rcases h with rfl|rfl|⟨a,b,rfl⟩<;>rfl
theorem BY {q:YP}{S:YS}(x:Dd):flD (x.out q S).2.1=true:=by
 cases hc:x.chk q S with
|some r=>rw[Dd.out_some hc];rfl
|none =>
  rw[Dd.out_none hc];cases x with
 |take=>exact(qQ q S).fl
 |collect=>exact(jR q S).fl
 |ask wt =>
   show flD (match bw q.n S.un with|some nm=>_|none=>_:PyData × YS).1=true;cases bw q.n S.un<;>rfl
 |answer nm wt=>rfl
 |bell b =>
   have aux:∀ S2:YS,flD (if rdC S2.m (S2.rs b) (jl (!b))≠1 then (PyData.bool false,S2) else if S2.bd (!b)=.asleep then (.bool true,({ S2 with bd:=ba S2.bd (!b) .up }:YS).wr (!b) (.c (jl (!b)) 0)) else (.bool true,S2)).1=true:=λS2=>by
    split
    . rfl
    . split<;>rfl
   exact aux { (if q.fb then S.fence b else S) with qt:=ba (if q.fb then S.fence b else S).qt b true }
 |lie b=>rfl
 |look b =>
   show flD (if _ then _ else _:PyData × YS).1=true;split<;>rfl
 |drain b =>
   show flD (match S.rs b with|x :: rest=>_|[]=>_:PyData × YS).1=true;cases S.rs b<;>rfl
def Dd.aft (ts:List Int) (x:Dd) (key:Str) (d:PyData):List Int:=if key="none" then (match x,d with
|.take,.tuple [.int a,.int _]=>gM ts a
|.answer nm _,_=>ts.erase nm
|_,_=>ts) else ts
def H0:PyData->PyData
|.tuple (a :: _)=>a
|d=>d
def Hc:PyData->PyData
|.tuple (_ :: b :: _)=>b
|d=>d
def Dd.hap (x:Dd) (key:Str) (d:PyData):List PyData:=if key="none" then (match x with
|.ask wt=>[l6 "asked" d (.int wt)]
|.answer nm wt=>[l6 "answered" (.int nm) (.int wt)]
|.take=>(match d with|.none=>[]|_=>[l6 "taken" (H0 d) (Hc d)])
|.collect=>(match d with|.none=>[]|_=>[l6 "handed" (H0 d) (Hc d)])
|_=>[]) else []
theorem Dd.cls2 (x:Dd):x=.take\/(∃ nm wt,x=.answer nm wt)\/(x.word≠"take"/\x.word≠"answer"/\∀ ts key d,x.aft ts key d=ts):=by
 cases x with
|take=>exact .inl rfl
|answer nm wt=>exact .inr (.inl ⟨_,_,rfl⟩)
|ask wt=>exact .inr (.inr ⟨show ¬ ("ask":Str)="take" by decide +kernel,show ¬ ("ask":Str)="answer" by decide +kernel,λts key d=>by unfold Dd.aft;split<;>rfl⟩)
|collect=>exact .inr (.inr ⟨show ¬ ("collect":Str)="take" by decide +kernel,show ¬ ("collect":Str)="answer" by decide +kernel,λts key d=>by unfold Dd.aft;split<;>rfl⟩)
|bell b=>exact .inr (.inr ⟨show ¬ ("bell":Str)="take" by decide +kernel,show ¬ ("bell":Str)="answer" by decide +kernel,λts key d=>by unfold Dd.aft;split<;>rfl⟩)
|lie b=>exact .inr (.inr ⟨show ¬ ("lie":Str)="take" by decide +kernel,show ¬ ("lie":Str)="answer" by decide +kernel,λts key d=>by unfold Dd.aft;split<;>rfl⟩)
|look b=>exact .inr (.inr ⟨show ¬ ("look":Str)="take" by decide +kernel,show ¬ ("look":Str)="answer" by decide +kernel,λts key d=>by unfold Dd.aft;split<;>rfl⟩)
|drain b=>exact .inr (.inr ⟨show ¬ ("drain":Str)="take" by decide +kernel,show ¬ ("drain":Str)="answer" by decide +kernel,λts key d=>by unfold Dd.aft;split<;>rfl⟩)
theorem Dd.at0 (x:Dd):atI x.vs 0=some (.str x.word):=by cases x<;>rfl
theorem Fch.dv {H:Hp}{d:PyData}{v:V}(h:Fch d) (dv:DV H d v):(d=.none/\v=.non)\/∃ (c:Addr) (v1 v2:V),v=.ref c/\H c=some (.tup [v1,v2])/\((d=.tuple [.none,.none]/\v1=.non/\v2=.non)\/∃ i j:Int,d=.tuple [.int i,.int j]/\v1=.int i/\v2=.int j):=by
 rcases h with rfl|rfl|⟨i,j,rfl⟩
 . exact .inl ⟨rfl,dv⟩
 . obtain⟨c,vs,rfl,hc,v1,r1,rfl,d1,v2,r2,rfl,d2,rfl⟩:=dv;exact .inr ⟨c,v1,v2,rfl,hc,.inl ⟨rfl,d1,d2⟩⟩
 . obtain⟨c,vs,rfl,hc,v1,r1,rfl,d1,v2,r2,rfl,d2,rfl⟩:=dv;exact .inr ⟨c,v1,v2,rfl,hc,.inr ⟨i,j,rfl,d1,d2⟩⟩
theorem y6 {ts:List Int}{a:Int}:(gM ts a).length <= ts.length+1:=by
 unfold gM;cases ts.contains a with
|true=>exact le_succ _
|false=>rw[if_neg (by decide),List.length_append];exact Nat.le_refl _
theorem Du {ts:List Int}{x:Dd}{key:Str}{d:PyData}:(x.aft ts key d).length <= ts.length+1:=by
 unfold Dd.aft;split
 . split
   . exact y6
   . exact Nat.le_succ_of_le (List.length_erase_le)
   . exact le_succ _
 . exact le_succ _
theorem uU {own:Addr->Prop}{H H':Hp}(ko:KO own H H') (h:∀ c,own c->∀ vs,H c≠some (.tup vs)):∀ b vs,H b=some (.tup vs)->H' b=some (.tup vs):=λb vs e=>ko b _ (λz=>h b z vs e) e
section
variable {w:World}{CY CH CT CR CS:Addr}{H H':Hp}{a:YA}{q:YP}{S:YS}
theorem Yn.noT (Y:Yn w CY CH CT CR CS H a q S):∀ c,a.own c->∀ vs,H c≠some (.tup vs):=λc hc vs e=>by
 obtain⟨o,e',n⟩:=Y.there hc;rw[e']at e;exact n vs (Option.some.inj e)
theorem Yn.ko (Y:Yn w CY CH CT CR CS H a q S) {own:Addr->Prop}(ko:KO own H H') (hd:∀ c,own c->¬ a.own c) (hn:∀ c,own c->∀ vs,H c≠some (.tup vs)):Yn w CY CH CT CR CS H' a q S :=
 Y.keep (λc o hc e=>ko c o (λz=>hd c z hc) e) (uU ko hn)
theorem Yn.fresh (Y:Yn w CY CH CT CR CS H a q S) {c:Addr}(h:H c=none):¬ a.own c:=λhc=>by
 obtain⟨o,e,_⟩:=Y.there hc;rw[e]at h;cases h
end
def FlL (ds:List PyData):Prop:=∀ d∈ds,PyData.canLay0 d=true/\d.depth <= 9
theorem FlL.all:∀ {ds:List PyData},FlL ds->PyData.canLayAll0 ds=true/\PyData.depthAll ds <= 9
|[],_=>⟨rfl,zero_le _⟩
|d :: ds,h=>by
  obtain⟨a,b⟩:=FlL.all (ds:=ds) λu hu=>h u (mem_cons_of_mem _ hu)
  have hd:=h d mem_cons_self;refine⟨?_,?_⟩
  . show (PyData.canLay0 d && PyData.canLayAll0 ds)=true;rw[hd.1,a];rfl
  . show max d.depth (PyData.depthAll ds) <= 9;have:=hd.2;omega
theorem FlL.lay {ds:List PyData}(h:FlL ds):mF (.list ds)/\(PyData.list ds).depth <= 10:=by
 obtain⟨h1,h2⟩:=h.all;exact⟨⟨h1,by show PyData.depthAll _+1 <= 16;omega⟩,by show PyData.depthAll _+1 <= 10;omega⟩
theorem um {d:PyData}(h:mF d):PyData.eqv d d=true:=PySem.SeqAt.eqv_refl d h.1
theorem FnOk.or {P:Program}{w:World}{K:PySem.W.Frag}{mg:Str->Option Value}{base:Heap}{CX:CXT}{k:Nat}{f:Addr}{fd:FuncData}{ps:List Str}{sp1 sp2:Sp}(F1:FnOk P w K mg base CX k f fd ps sp1) (F2:FnOk P w K mg base CX k f fd ps sp2):FnOk P w K mg base CX k f fd ps (λvs H Q E=>sp1 vs H Q E\/sp2 vs H Q E) :=
 ⟨λvs H Q E h=>h.elim (F1.len vs H Q E) (F2.len vs H Q E),λA outer s H args us vs Q E hr he hb hv hs=>hs.elim (F1.run A outer s H args us vs Q E hr he hb hv) (F2.run A outer s H args us vs Q E hr he hb hv)⟩
def Af (d:PyData):Prop:=PyData.canLay0 d=true/\d.depth <= 1
theorem Fch.can {d:PyData}(h:Fch d):Af d:=by
 rcases h with rfl|rfl|⟨a,b,rfl⟩
 . exact⟨rfl,by show 0 <= 1;decide⟩
 . exact⟨rfl,by show 1 <= 1;decide⟩
 . exact⟨rfl,by show 1 <= 1;decide⟩
theorem Dp (i:Int):Af (.int i):=⟨rfl,by show 0 <= 1;decide⟩
theorem qW (b:Bool):Af (.bool b):=⟨rfl,by show 0 <= 1;decide⟩
theorem kF:Af .none:=⟨rfl,by show 0 <= 1;decide⟩
theorem D0 {q:YP}{S:YS}(x:Dd):Af (x.out q S).2.1:=by
 cases hc:x.chk q S with
|some r=>rw[Dd.out_some hc];exact kF
|none =>
  rw[Dd.out_none hc];cases x with
 |take=>exact(qQ q S).can
 |collect=>exact(jR q S).can
 |ask wt =>
   show Af (match bw q.n S.un with|some nm=>_|none=>_:PyData × YS).1;cases bw q.n S.un with
  |some nm=>exact Dp nm
  |none=>exact kF
 |answer nm wt=>exact kF
 |bell b =>
   have aux:∀ S2:YS,Af (if rdC S2.m (S2.rs b) (jl (!b))≠1 then (PyData.bool false,S2) else if S2.bd (!b)=.asleep then (.bool true,({ S2 with bd:=ba S2.bd (!b) .up }:YS).wr (!b) (.c (jl (!b)) 0)) else (.bool true,S2)).1:=λS2=>by
    split
    . exact qW _
    . split<;>exact qW _
   exact aux { (if q.fb then S.fence b else S) with qt:=ba (if q.fb then S.fence b else S).qt b true }
 |lie b=>exact kF
 |look b =>
   show Af (if _ then _ else _:PyData × YS).1;split<;>exact qW _
 |drain b =>
   show Af (match S.rs b with|x :: rest=>_|[]=>_:PyData × YS).1;cases S.rs b<;>exact kF
theorem ED {q:YP}{S:YS}(x:Dd):PyData.strOk (x.out q S).1=true:=by
 cases hc:x.chk q S with
|some r =>
  rw[Dd.out_some hc];show PyData.strOk r.key=true;cases r<;>decide +kernel
|none=>rw[Dd.out_none hc];exact(by decide +kernel:PyData.strOk ("none":Str)=true)
def Bk (q:YP) (S:YS) (x:Dd):PyData:=.tuple [.str (x.out q S).1,(x.out q S).2.1]
theorem Ax {q:YP}{S:YS}(x:Dd):mF (Bk q S x)/\(Bk q S x).depth <= 10:=by
 obtain⟨h1,h2⟩:=D0 (q:=q) (S:=S) x;have hd:(Bk q S x).depth <= 2:=by
  show max 0 (max (x.out q S).2.1.depth 0)+1 <= 2;omega
 refine⟨⟨?_,by omega⟩,by omega⟩;show (PyData.strOk (x.out q S).1 && (PyData.canLay0 (x.out q S).2.1 && true))=true;rw[ED,h1];rfl
def inC (N:Int) (k:Cn) (i:Int):Prop:=k=.hs\/k=.ts\/(0 <= i/\i < N)
def Wr.In (N:Int):Wr->Prop
|.c k i=>inC N k i
|.p _ _ _ _=>True
section
variable {N:Int}{m:Mem}{rs:Bool->List Wr}{b:Bool}{x:Wr}{rest:List Wr}
end
def YS.wh (S:YS) (h:List PyData):YS:={ S with hs:=h }
def EqS (S T:YS):Prop:=∃ h,T=S.wh h
theorem y0 {q:YP}{S:YS}{b:Bool}{x:Wr}{rest:List Wr}(h:S.rs b=x :: rest):(Dd.drain b).chk q S=none/\(Dd.drain b).run q S=(.none,{ S with m:=S.m.put x,rs:=ba S.rs b rest }):=by
 refine⟨if_neg (by rw[h];exact λy=>by cases y),?_⟩;show (match S.rs b with|x :: rest=>_|[]=>_)=_;rw[h]
section
variable {rs:Bool->List Wr}{b:Bool}
end
structure Ord where
 lt:Nat->Nat->Bool
 n:Nat
 tr:∀ a b c,lt a b=true->lt b c=true->lt a c=true
 tot:∀ a b,a < n->b < n->a≠b->lt a b=false->lt b a=true
section
variable {O:Ord}
end
section
variable {prog:Program}{w:World}{A:Around}{E:Value->Shared->Prop}{s:Shared}
end
section
variable {X:Cx}
end
def Dd.nam (un:List Int) (x:Dd) (key:Str) (d:PyData):List Int:=if key="none" then (match x,d with
|.ask _,.int a=>un++[a]
|.collect,.tuple [.int a,.int _]=>un.erase a
|_,_=>un) else un
theorem si {xs:List Int}(h:xs.Nodup) (a:Int):xs.erase a=xs.filter λk=>decide (k≠a):=by
 induction xs with
|nil=>rfl
|cons x xs ih =>
  rw[nodup_cons]at h;rw[List.erase_cons,filter_cons];by_cases e:x=a
  . rw[if_pos (by rw[e];exact beq_self_eq_true _),if_neg (by rw[decide_eq_true_eq];exact λz=>z e)];refine(List.filter_eq_self.mpr λy hy=>?_).symm;rw[decide_eq_true_eq];exact λz=>h.1 (by rw[<-z]at e;rw[e];exact hy)
  . rw[if_neg (by rw[beq_iff_eq];exact e),if_pos (decide_eq_true e),ih h.2]
theorem EK {q:YP}{S:YS}{n:Int}(hn:Nms n S.tk) (x:Dd):(x.out q S).2.2.tk=x.aft S.tk (x.out q S).1 (x.out q S).2.1:=by
 cases hc:x.chk q S with
|some r=>rw[Dd.out_some hc];unfold Dd.aft;rw[if_neg r.key_ne]
|none =>
  rw[Dd.out_none hc];unfold Dd.aft;rw[if_pos rfl];cases x with
 |ask wt =>
   show (match bw q.n S.un with|some nm=>_|none=>_:PyData × YS).2.tk=_;cases hl:bw q.n S.un<;>rfl
 |answer nm wt=>exact(si hn.1 nm).symm
 |take =>
   unfold Dd.run;by_cases h:az q.p S.m (S.rs true) .asked .taken=0
   . rw[if_pos h]
   . rw[if_neg h];cases rdP S.m (S.rs true) false (rdC S.m (S.rs true) .taken % q.p.s)<;>rfl
 |collect =>
   unfold Dd.run;by_cases h:az q.p S.m (S.rs false) .answered .handed=0
   . rw[if_pos h]
   . rw[if_neg h];cases rdP S.m (S.rs false) true (rdC S.m (S.rs false) .handed % q.p.s)<;>rfl
 |drain b =>
   show (match S.rs b with|x :: rest=>_|[]=>_:PyData × YS).2.tk=_;cases S.rs b<;>rfl
 |look b =>
   show (if _ then _ else _:PyData × YS).2.tk=_;split<;>rfl
 |lie b =>
   show (if q.fl then (S.wr b (.c (jl b) 1)).fence b else S.wr b (.c (jl b) 1)).tk=S.tk;split<;>rfl
 |bell b =>
   have aux:∀ S2:YS,(if rdC S2.m (S2.rs b) (jl (!b))≠1 then (PyData.bool false,S2) else if S2.bd (!b)=.asleep then (.bool true,({ S2 with bd:=ba S2.bd (!b) .up }:YS).wr (!b) (.c (jl (!b)) 0)) else (.bool true,S2)).2.tk=S2.tk:=λS2=>by
    split
    . rfl
    . split<;>rfl
   refine(aux { (if q.fb then S.fence b else S) with qt:=ba (if q.fb then S.fence b else S).qt b true }).trans ?_;show (if q.fb then S.fence b else S).tk=S.tk;split<;>rfl
section
variable {K:PySem.W.Frag}
end
def Wr.slp:Wr->Bool
|.c .hs _=>true
|.c .ts _=>true
|_=>false
def bU (row:List Wr):List Wr:=row.filter λx=>!x.slp
def Mem.ns (m:Mem):Mem:=⟨λk=>match k with|.hs=>0|.ts=>0|.asked=>m.c .asked|.taken=>m.c .taken|.answered=>m.c .answered|.handed=>m.c .handed,m.p⟩
def Cn.wk:Cn->Bool
|.hs=>false
|.ts=>false
|_=>true
theorem EX {m:Mem}{k:Cn}(h:k.wk=true):m.ns.c k=m.c k:=by cases k<;>first|rfl|cases h
theorem uC {x:Wr}{k:Cn}(h:k.wk=true) (hx:x.slp=true):x.cnt k=none:=by
 cases x with
|p=>rfl
|c k' i =>
  have:k'≠k:=λe=>by subst e;cases k'<;>cases h<;>cases hx
  exact if_neg this
theorem D6 {x:Wr}{g:Bool}{i:Int}(hx:x.slp=true):x.plc g i=none:=by
 cases x with
|p=>cases hx
|c k' i=>rfl
theorem j2 (xs ys:List Wr):bU (xs++ys)=bU xs++bU ys:=filter_append ..
theorem qh {β:Type}(f:Wr->Option β) (h:∀ x,x.slp=true->f x=none) (row:List Wr):(bU row).reverse.findSome? f=row.reverse.findSome? f:=by
 unfold bU;rw[<-List.filter_reverse];generalize row.reverse=r
 induction r with
|nil=>rfl
|cons x r ih =>
  rw[filter_cons];cases hx:x.slp with
 |true =>
   rw[if_neg (by decide),ih,findSome?_cons,h x hx]
 |false =>
   rw[if_pos (by decide),findSome?_cons,findSome?_cons,ih]
theorem fC {m:Mem}{row:List Wr}{k:Cn}(h:k.wk=true):rdC m.ns (bU row) k=rdC m row k:=by
 unfold rdC;rw[qh (Wr.cnt k) (λx hx=>uC h hx),EX h]
theorem kB {m:Mem}{row:List Wr}{g:Bool}{i:Int}:rdP m.ns (bU row) g i=rdP m row g i:=by
 unfold rdP;rw[qh (Wr.plc g i) (λx hx=>D6 hx)];rfl
theorem dY {p:RP}{m:Mem}{row:List Wr}{a b:Cn}(ha:a.wk=true) (hb:b.wk=true):az p m.ns (bU row) a b=az p m row a b:=by
 unfold az;rw[fC ha,fC hb]
theorem lT {p:RP}{m:Mem}{row:List Wr}{a:Cn}(ha:a.wk=true):dl p m.ns (bU row) a=dl p m row a:=by
 unfold dl;rw[fC ha]
theorem t7 {p:RP}{m:Mem}{row:List Wr}{g:Bool}{a:Cn}{nm wt:Int}(ha:a.wk=true):lZ p m.ns (bU row) g a nm wt=lZ p m row g a nm wt:=by
 unfold lZ;rw[fC ha,lT ha]
theorem qJ {p:RP}{m:Mem}{row:List Wr}{a:Cn}(ha:a.wk=true):(dl p m row a).slp=false:=by
 cases a<;>first|rfl|cases ha
theorem yg {p:RP}{m:Mem}{row:List Wr}{g:Bool}{a:Cn}{nm wt:Int}(ha:a.wk=true):bU (lZ p m row g a nm wt)=lZ p m row g a nm wt:=by
 unfold bU lZ;have h:=qJ (p:=p) (m:=m) (row:=row) ha;split<;>(refine List.filter_eq_self.mpr λx hx=>?_;simp only[mem_cons,not_mem_nil,or_false]at hx;rcases hx with rfl|rfl<;>first|(rw[h];rfl)|rfl)
theorem Cw {m:Mem}{x:Wr}(h:x.slp=true):(m.put x).ns=m.ns:=by
 cases x with
|p=>cases h
|c k i =>
  unfold Mem.put Mem.ns;congr 1;funext j;cases j<;>first|rfl|(show ((Wr.c k i).cnt _).getD _=_;rw[uC rfl h];rfl)
theorem Fj {m:Mem}{x:Wr}(h:x.slp=false):(m.put x).ns=m.ns.put x:=by
 unfold Mem.put Mem.ns;congr 1;funext j;cases j<;>first|rfl|(cases x with|p=>rfl|c k i=>cases k<;>first|rfl|cases h)
theorem vB {k:Cn}{row:List Wr}(h:k.wk=true):nC k (bU row)=nC k row:=by
 unfold nC bU;rw[List.filter_filter];congr 1;refine List.filter_congr λx _=>?_
 cases hx:x.slp with
|true =>
  have:isC k x=false:=by unfold isC;rw[uC h hx];rfl
  rw[this];rfl
|false=>cases isC k x<;>rfl
theorem jp {x:Wr}{row:List Wr}:bU (x :: row)=if x.slp then bU row else x :: bU row:=by
 unfold bU;rw[filter_cons];cases x.slp<;>rfl
theorem fi {rs:Bool->List Wr}{b:Bool}{row:List Wr}:(λc=>bU (ba rs b row c))=ba (λc=>bU (rs c)) b (bU row):=by
 funext c;by_cases h:c=b
 . subst h;rw[aD,aD]
 . rw[bF h,bF h]
def M30 (s R:Int) (n:Nat) (S:YS) (A B:List (Int × Int)) (T Hd:Nat):Prop:=M8 s R n S.m.ns (λb=>bU (S.rs b)) S.un S.tk A B T Hd
section
variable {s R:Int}{n:Nat}{S:YS}{A B:List (Int × Int)}{T Hd:Nat}
theorem M30.drain (M:M30 s R n S A B T Hd) {b:Bool}{x:Wr}{rest:List Wr}(e:S.rs b=x :: rest):M30 s R n { S with m:=S.m.put x,rs:=ba S.rs b rest } A B T Hd:=by
 unfold M30 at M |-;show M8 s R n (S.m.put x).ns (λc=>bU (ba S.rs b rest c)) S.un S.tk A B T Hd;rw[fi];have hb:(λc=>bU (S.rs c)) b=if x.slp then bU rest else x :: bU rest:=by
  show bU (S.rs b)=_;rw[e,jp]
 cases hx:x.slp with
|true =>
  rw[Cw hx];rw[hx,if_pos rfl]at hb;rw[<-hb,uV];exact M
|false =>
  rw[Fj hx];rw[hx,if_neg (by decide)]at hb;exact M.drain b hb
theorem M30.fence (b:Bool):∀ (row:List Wr) {S:YS},M30 s R n S A B T Hd->S.rs b=row->M30 s R n { S with m:=S.m.putAllY row,rs:=ba S.rs b [] } A B T Hd
|[],S,M,e=>by
  show M30 s R n { S with m:=S.m,rs:=ba S.rs b [] } A B T Hd;rw[<-e,uV];exact M
|x :: row,S,M,e=>by
  have M1:=M.drain e;have:=M30.fence b row M1 (aD);have h2:ba (ba S.rs b row) b []=ba S.rs b []:=by
   funext c;by_cases h:c=b
   . subst h;rw[aD,aD]
   . rw[bF h,bF h,bF h]
  show M30 s R n { S with m:=(S.m.put x).putAllY row,rs:=ba S.rs b [] } A B T Hd;rw[<-h2];exact this
theorem M30.slept (M:M30 s R n S A B T Hd) {b:Bool}{x:Wr}(h:x.slp=true):M30 s R n (S.wr b x) A B T Hd:=by
 unfold M30 at M |-;show M8 s R n S.m.ns (λc=>bU (ba S.rs b (S.rs b++[x]) c)) S.un S.tk A B T Hd;rw[fi,j2];have:bU [x]=[]:=by rw[jp,h];rfl
 rw[this,append_nil];have h2:=uV (λc=>bU (S.rs c)) b;rw[show ba (λc=>bU (S.rs c)) b (bU (S.rs b))=_ from h2];exact M
theorem qA (b:Bool) (i:Int):(Wr.c (jl b) i).slp=true:=by cases b<;>rfl
end
abbrev Ev:=Cn × Int × Int
def evD (e:Ev):PyData:=l6 e.1.key (.int e.2.1) (.int e.2.2)
def th (k:Cn) (es:List Ev):List (Int × Int):=(es.filter λe=>decide (e.1=k)).map (·.2)
theorem bc (k:Cn) (es fs:List Ev):th k (es++fs)=th k es++th k fs:=by unfold th;rw[filter_append,map_append]
theorem gp (k:Cn) (a b:Int):th k [(k,a,b)]=[(a,b)]:=by unfold th;rw[filter_cons,if_pos (decide_eq_true rfl)];rfl
theorem dJ {k j:Cn}(h:k≠j) (a b:Int):th j [(k,a,b)]=[]:=by unfold th;rw[filter_cons,if_neg (by rw[decide_eq_true_eq];exact h)];rfl
def yp0 (s R:Int) (n:Nat):YP:=⟨⟨s,R,false⟩,n,true,true,true⟩
structure Q30 (s R:Int) (n:Nat) (S:YS) (es:List Ev):Prop where
 m:M30 s R n S (th .asked es) (th .answered es) (th .taken es).length (th .handed es).length
 tk:th .taken es=(th .asked es).take (th .taken es).length
 hd:th .handed es=(th .answered es).take (th .handed es).length
 hs:S.hs=es.map evD
section
variable {s R:Int}{n:Nat}{S:YS}{es:List Ev}
theorem Q30.zero (hs:0 < s) (hs8:s <= 8) (hR:2 <= R) (n9:n <= 9):Q30 s R n YS.zero []:=by
 refine⟨?_,rfl,rfl,rfl⟩;have:=M8.zero (n:=n) hs hs8 hR n9;have e:Mem.zero.ns=Mem.zero:=by
  unfold Mem.ns Mem.zero;congr 1;funext k;cases k<;>rfl
 show M8 s R n Mem.zero.ns (λ_=>[]) [] [] [] [] 0 0;rw[e];exact this
theorem Q30.quiet {S':YS}(Q:Q30 s R n S es) (h:∀ {A B T Hd},M30 s R n S A B T Hd->M30 s R n S' A B T Hd) (hh:S'.hs=S.hs):Q30 s R n S' es:=⟨h Q.m,Q.tk,Q.hd,hh.trans Q.hs⟩
theorem Q30.ask (Q:Q30 s R n S es) {wt nm:Int}(h:az ⟨s,R,false⟩ S.m (S.rs false) .asked .taken≠s) (hl:bw n S.un=some nm):Q30 s R n ((Dd.ask wt).run (yp0 s R n) S).2 (es++[(.asked,nm,wt)]):=by
 have hr:(Dd.ask wt).run (yp0 s R n) S=(.int nm,{ S with rs:=ba S.rs false (S.rs false++lZ ⟨s,R,false⟩ S.m (S.rs false) false .asked nm wt),un:=S.un++[nm],qt:=ba S.qt false false,hs:=S.hs++[l6 "asked" (.int nm) (.int wt)] }):=by
  show (match bw n S.un with|some nm=>_|none=>_:PyData × YS)=_;rw[hl];rfl
 rw[hr];have M:=Q.m;unfold M30 at M;have M1:=M8.ask M (by rw[dY rfl rfl];exact h) hl wt;refine⟨?_,?_,?_,?_⟩
 . rw[bc,bc,bc,bc,gp,dJ (by decide),dJ (by decide),dJ (by decide),append_nil,append_nil,append_nil];unfold M30;show M8 s R n S.m.ns (λc=>bU (ba S.rs false (S.rs false++lZ ⟨s,R,false⟩ S.m (S.rs false) false .asked nm wt) c)) (S.un++[nm]) S.tk _ _ _ _;rw[fi,j2,yg rfl];have e:=t7 (p:=⟨s,R,false⟩) (m:=S.m) (row:=S.rs false) (g:=false) (a:=.asked) (nm:=nm) (wt:=wt) rfl;rw[<-e];exact M1
 . rw[bc,bc,gp,dJ (by decide),append_nil];have h1:=Q.tk;have h2:(th .taken es).length <= (th .asked es).length:=by
    have:=congrArg List.length h1;rw[length_take]at this;omega
   rw[take_append_of_le_length h2];exact h1
 . rw[bc,bc,dJ (by decide),dJ (by decide),append_nil,append_nil];exact Q.hd
 . show S.hs++[l6 "asked" (.int nm) (.int wt)]=_;rw[Q.hs,map_append];rfl
theorem Q30.answer (Q:Q30 s R n S es) {wt nm:Int}(hm:S.tk.contains nm≠false) (h:az ⟨s,R,false⟩ S.m (S.rs true) .answered .handed≠s):Q30 s R n ((Dd.answer nm wt).run (yp0 s R n) S).2 (es++[(.answered,nm,wt)]):=by
 have M:=Q.m;unfold M30 at M;have hm':nm∈S.tk:=contains_iff_mem.mp (by cases hh:S.tk.contains nm with|true=>rfl|false=>exact absurd hh hm);have M1:=M8.answer M hm' (by rw[dY rfl rfl];exact h) wt;refine⟨?_,?_,?_,?_⟩
 . rw[bc,bc,bc,bc,gp,dJ (by decide),dJ (by decide),dJ (by decide),append_nil,append_nil,append_nil];unfold M30;show M8 s R n S.m.ns (λc=>bU (ba S.rs true (S.rs true++lZ ⟨s,R,false⟩ S.m (S.rs true) true .answered nm wt) c)) S.un (S.tk.filter (λk=>decide (k≠nm))) _ _ _ _;rw[fi,j2,yg rfl,<-M.tkd.erase_eq];have e:=t7 (p:=⟨s,R,false⟩) (m:=S.m) (row:=S.rs true) (g:=true) (a:=.answered) (nm:=nm) (wt:=wt) rfl;rw[<-e];exact M1
 . rw[bc,bc,dJ (by decide),dJ (by decide),append_nil,append_nil];exact Q.tk
 . rw[bc,bc,gp,dJ (by decide),append_nil];have h1:=Q.hd;have h2:(th .handed es).length <= (th .answered es).length:=by
    have:=congrArg List.length h1;rw[length_take]at this;omega
   rw[take_append_of_le_length h2];exact h1
 . show S.hs++[l6 "answered" (.int nm) (.int wt)]=_;rw[Q.hs,map_append];rfl
theorem Q30.take (Q:Q30 s R n S es) (h:az ⟨s,R,false⟩ S.m (S.rs true) .asked .taken≠0):∃ nw:Int × Int,(th .asked es)[(th .taken es).length]?=some nw/\(Dd.take.run (yp0 s R n) S).1=.tuple [.int nw.1,.int nw.2]/\Q30 s R n (Dd.take.run (yp0 s R n) S).2 (es++[(.taken,nw.1,nw.2)]):=by
 have M:=Q.m;unfold M30 at M;obtain⟨nw,h1,h2,h3,h4,h5,M1⟩:=M8.takeR M (by rw[dY rfl rfl];exact h);rw[fC rfl,kB]at h2;have hr:Dd.take.run (yp0 s R n) S=(.tuple [.int nw.1,.int nw.2],{ S with rs:=ba S.rs true (S.rs true++[dl ⟨s,R,false⟩ S.m (S.rs true) .taken]),tk:=gM S.tk nw.1,hs:=S.hs++[l6 "taken" (.int nw.1) (.int nw.2)] }):=by
  show (if az ⟨s,R,false⟩ S.m (S.rs true) .asked .taken=0 then _ else match rdP S.m (S.rs true) false (rdC S.m (S.rs true) .taken % s) with|some nw=>_|none=>_:PyData × YS)=_;rw[if_neg h,h2];rfl
 rw[hr];refine⟨nw,h1,rfl,?_,?_,?_,?_⟩
 . rw[bc,bc,bc,bc,gp,dJ (by decide),dJ (by decide),dJ (by decide),append_nil,append_nil,append_nil,List.length_append];unfold M30;show M8 s R n S.m.ns (λc=>bU (ba S.rs true (S.rs true++[dl ⟨s,R,false⟩ S.m (S.rs true) .taken]) c)) S.un (gM S.tk nw.1) _ _ (_+1) _;have g:gM S.tk nw.1=S.tk++[nw.1]:=by unfold gM;rw[h4];rfl
   have e:=lT (p:=⟨s,R,false⟩) (m:=S.m) (row:=S.rs true) (a:=.taken) rfl;rw[fi,j2,g,jp,qJ rfl,if_neg (by decide),<-e];exact M1
 . rw[bc,bc,gp,dJ (by decide),append_nil,List.length_append];show _=List.take (_+1) _;rw[take_add_one,h1,<-Q.tk];rfl
 . rw[bc,bc,dJ (by decide),dJ (by decide),append_nil,append_nil];exact Q.hd
 . show S.hs++[l6 "taken" (.int nw.1) (.int nw.2)]=_;rw[Q.hs,map_append];rfl
theorem Q30.collect (Q:Q30 s R n S es) (h:az ⟨s,R,false⟩ S.m (S.rs false) .answered .handed≠0):∃ nw:Int × Int,(th .answered es)[(th .handed es).length]?=some nw/\(Dd.collect.run (yp0 s R n) S).1=.tuple [.int nw.1,.int nw.2]/\Q30 s R n (Dd.collect.run (yp0 s R n) S).2 (es++[(.handed,nw.1,nw.2)]):=by
 have M:=Q.m;unfold M30 at M;obtain⟨nw,h1,h2,h3,h4,M1⟩:=M8.collectR M (by rw[dY rfl rfl];exact h);rw[fC rfl,kB]at h2;have hr:Dd.collect.run (yp0 s R n) S=(.tuple [.int nw.1,.int nw.2],{ S with rs:=ba S.rs false (S.rs false++[dl ⟨s,R,false⟩ S.m (S.rs false) .handed]),un:=S.un.filter (λk=>decide (k≠nw.1)),hs:=S.hs++[l6 "handed" (.int nw.1) (.int nw.2)] }):=by
  show (if az ⟨s,R,false⟩ S.m (S.rs false) .answered .handed=0 then _ else match rdP S.m (S.rs false) true (rdC S.m (S.rs false) .handed % s) with|some nw=>_|none=>_:PyData × YS)=_;rw[if_neg h,h2];rfl
 rw[hr];refine⟨nw,h1,rfl,?_,?_,?_,?_⟩
 . rw[bc,bc,bc,bc,gp,dJ (by decide),dJ (by decide),dJ (by decide),append_nil,append_nil,append_nil,List.length_append];unfold M30;show M8 s R n S.m.ns (λc=>bU (ba S.rs false (S.rs false++[dl ⟨s,R,false⟩ S.m (S.rs false) .handed]) c)) (S.un.filter (λk=>decide (k≠nw.1))) S.tk _ _ _ (_+1);have e:=lT (p:=⟨s,R,false⟩) (m:=S.m) (row:=S.rs false) (a:=.handed) rfl;rw[fi,j2,<-M.und.erase_eq,jp,qJ rfl,if_neg (by decide),<-e];exact M1
 . rw[bc,bc,dJ (by decide),dJ (by decide),append_nil,append_nil];exact Q.tk
 . rw[bc,bc,gp,dJ (by decide),append_nil,List.length_append];show _=List.take (_+1) _;rw[take_add_one,h1,<-Q.hd];rfl
 . show S.hs++[l6 "handed" (.int nw.1) (.int nw.2)]=_;rw[Q.hs,map_append];rfl
theorem Q30.rest (Q:Q30 s R n S es) {x:Dd}(h:match x with|.bell _=>True|.lie _=>True|.look _=>True|.drain _=>True|_=>False):Q30 s R n (x.run (yp0 s R n) S).2 es:=by
 cases x with
|ask=>exact h.elim
|collect=>exact h.elim
|take=>exact h.elim
|answer=>exact h.elim
|drain b =>
  cases e:S.rs b with
 |nil =>
   have:(Dd.drain b).run (yp0 s R n) S=(.none,S):=by
    show (match S.rs b with|x :: rest=>_|[]=>_:PyData × YS)=_;rw[e]
   rw[this];exact Q
 |cons x rest =>
   rw[(y0 (q:=yp0 s R n) e).2];exact Q.quiet (λM=>M.drain e) rfl
|look b =>
  by_cases hh:(yp0 s R n).fk=true/\swT (yp0 s R n) S b=true
  . rw[show (Dd.look b).run (yp0 s R n) S=_ from if_pos hh];exact Q.quiet (λM=>M.slept (b:=b) (qA b 0)) rfl
  . rw[show (Dd.look b).run (yp0 s R n) S=_ from if_neg hh];exact Q.quiet (λM=>M) rfl
|lie b=>exact Q.quiet (λM=>M30.fence b _ (M.slept (b:=b) (qA b 1)) rfl) rfl
|bell b =>
  have Q1:Q30 s R n (S.fence b) es:=Q.quiet (λM=>M30.fence b _ M rfl) rfl;show Q30 s R n (if rdC (S.fence b).m ((S.fence b).rs b) (jl (!b))≠1 then _ else if (S.fence b).bd (!b)=.asleep then _ else _:PyData × YS).2 es;split
  . exact Q1.quiet (λM=>M) rfl
  . split
    . exact Q1.quiet (λM=>M30.slept (S:={ S.fence b with qt:=ba (S.fence b).qt b true,bd:=ba (S.fence b).bd (!b) .up }) M (b:=!b) (qA (!b) 0)) rfl
    . exact Q1.quiet (λM=>M) rfl
end
theorem yn {m:Mem}{W:List Wr}{d:Nat}{g:Bool}{i:Int}(h:m.p g i=rdP Mem.zero (W.take d) g i):rdP m (W.drop d) g i=rdP Mem.zero W g i:=by
 have e:=Ec Mem.zero (W.take d) (W.drop d) g i;rw[take_append_drop]at e;rw[e,<-h];rfl
structure Cts (s R:Int) (S:YS) (A B:List (Int × Int)) (T Hd:Nat):Prop where
 ra:rdC S.m (S.rs false) .asked=(A.length:Int) % (s * R)
 rt:rdC S.m (S.rs true) .taken=(T:Int) % (s * R)
 rb:rdC S.m (S.rs true) .answered=(B.length:Int) % (s * R)
 rh:rdC S.m (S.rs false) .handed=(Hd:Int) % (s * R)
 ma:S.m.c .asked=((A.length:Int) - (nC .asked (S.rs false):Nat)) % (s * R)
 mt:S.m.c .taken=((T:Int) - (nC .taken (S.rs true):Nat)) % (s * R)
 mb:S.m.c .answered=((B.length:Int) - (nC .answered (S.rs true):Nat)) % (s * R)
 mh:S.m.c .handed=((Hd:Int) - (nC .handed (S.rs false):Nat)) % (s * R)
 la:(A.length:Int) - T <= s
 lb:(B.length:Int) - Hd <= s
 ta:(T:Int) <= (A.length:Int) - (nC .asked (S.rs false):Nat)
 hb:(Hd:Int) <= (B.length:Int) - (nC .answered (S.rs true):Nat)
 pa:∀ k:Nat,T <= k->k < A.length->rdP S.m (S.rs false) false ((k:Int) % s)=A[k]?
 pb:∀ k:Nat,Hd <= k->k < B.length->rdP S.m (S.rs true) true ((k:Int) % s)=B[k]?
 ca:az ⟨s,R,false⟩ S.m (S.rs false) .asked .taken=s ↔ (A.length:Int) - ((T:Int) - (nC .taken (S.rs true):Nat))=s
 cb:az ⟨s,R,false⟩ S.m (S.rs true) .answered .handed=s ↔ (B.length:Int) - ((Hd:Int) - (nC .handed (S.rs false):Nat))=s
 na:az ⟨s,R,false⟩ S.m (S.rs true) .asked .taken=0 ↔ (A.length:Int) - (nC .asked (S.rs false):Nat)=T
 nb:az ⟨s,R,false⟩ S.m (S.rs false) .answered .handed=0 ↔ (B.length:Int) - (nC .answered (S.rs true):Nat)=Hd
theorem M30.cts {s R:Int}{n:Nat}{S:YS}{A B:List (Int × Int)}{T Hd:Nat}(M:M30 s R n S A B T Hd):Cts s R S A B T Hd:=by
 unfold M30 at M;have hs:=M.s0;have f1:=M.full;have f2:=M.full2;have f3:=M.none1;have f4:=M.none2;obtain⟨Wf,Wt,df,dt,A',B',a',h',b',t',t⟩:=M.two;obtain⟨⟨r1,r2,_,_⟩,_,_,r3,r4⟩:=t.reads;obtain⟨⟨w1,w2⟩,w3,w4⟩:=t.waits;rw[fC rfl]at r1 r2 r3 r4;rw[dY rfl rfl,vB rfl]at f1 f2 f3 f4;change nC .asked (bU (S.rs false))=_ at w1;change nC .handed (bU (S.rs false))=_ at w2;have la:=t.la;have lh:=t.lh;have lb:=t.lb;have lt:=t.lt;have ta:=t.ta;have hb:=t.hb;have sa:=t.sa;have sb:=t.sb;have w3':nC .taken (bU (S.rs true))=T - t':=by first|exact w3|exact w4
 have w4':nC .answered (bU (S.rs true))=B.length - b':=by first|exact w4|exact w3
 rw[vB rfl]at w1 w2 w3' w4';have m1:S.m.c .asked=(a':Int) % (s * R):=by
  have:=t.ma;rw[EX rfl]at this;rw[this];exact t.pf.cA (by decide)
 have m2:S.m.c .handed=(h':Int) % (s * R):=by
  have:=t.mh;rw[EX rfl]at this;rw[this];exact t.pf.cF (by decide)
 have m3:S.m.c .answered=(b':Int) % (s * R):=by
  have:=t.mb;rw[EX rfl]at this;rw[this];exact t.pt.cA (by decide)
 have m4:S.m.c .taken=(t':Int) % (s * R):=by
  have:=t.mt;rw[EX rfl]at this;rw[this];exact t.pt.cF (by decide)
 refine⟨r1,r3,r4,r2,?_,?_,?_,?_,by omega,by omega,by omega,by omega,λk k1 k2=>?_,λk k1 k2=>?_,f1,f2,f3,f4⟩
 . rw[m1,w1];congr 1;omega
 . rw[m4,w3'];congr 1;omega
 . rw[m3,w4'];congr 1;omega
 . rw[m2,w2];congr 1;omega
 . rw[<-kB];have:=t.rf;change bU (S.rs false)=_ at this;rw[this,yn (t.mp _)];exact t.hf.pl hs k k2 (by omega)
 . rw[<-kB];have:=t.rt;change bU (S.rs true)=_ at this;rw[this,yn (t.mq _)];exact t.ht.pl hs k k2 (by omega)
def EvR (H:Hp) (e:Ev) (v:V):Prop:=∃ t:Addr,v=.ref t/\H t=some (.tup [.str e.1.key,.int e.2.1,.int e.2.2])
def PrR (H:Hp) (e:Int × Int) (v:V):Prop:=∃ t:Addr,v=.ref t/\H t=some (.tup [.int e.1,.int e.2])
theorem EvR.keep {H H':Hp}(ht:∀ b vs,H b=some (.tup vs)->H' b=some (.tup vs)) {e:Ev}{v:V}:EvR H e v->EvR H' e v
|⟨t,e1,e2⟩=>⟨t,e1,ht _ _ e2⟩
theorem PrR.keep {H H':Hp}(ht:∀ b vs,H b=some (.tup vs)->H' b=some (.tup vs)) {e:Int × Int}{v:V}:PrR H e v->PrR H' e v
|⟨t,e1,e2⟩=>⟨t,e1,ht _ _ e2⟩
structure Q31 (s R:Int) (n:Nat) (S:YS) (es:List Ev):Prop where
 q:Q30 s R n S es
 tp:((th .taken es).map (·.1)).Perm ((th .answered es).map (·.1)++S.tk)
theorem sF {n:Nat}{un:List Int}(h:Nms n un):bw n un=none ↔ un.length=n:=by
 have hall:∀ (n:Nat),(∀ j < n,(j:Int)∈un)->n <= un.length:=λn hj=>by
  have:=jk (l:=(List.range n).map λ(k:Nat)=>(k:Int)) (ks:=un) ?_ ?_
  . rw[length_map,length_range]at this;exact this
  . exact Pairwise.map _ (λa b hab=>by intro z;exact hab (by exact Int.ofNat.inj z)) List.nodup_range
  . intro a ha;obtain⟨j,hj',rfl⟩:=mem_map.mp ha;exact hj j (mem_range.mp hj')
 have hle:un.length <= n:=by
  have:=jk (l:=un) (ks:=(List.range n).map λ(k:Nat)=>(k:Int)) h.1 λx hx=>by
   obtain⟨h0,h1⟩:=h.2 x hx;obtain⟨k,rfl⟩:=Int.eq_ofNat_of_zero_le h0;exact mem_map.mpr ⟨k,mem_range.mpr (by omega),rfl⟩
  rw[length_map,length_range]at this;exact this
 constructor
 . intro e;have:∀ j < n,(j:Int)∈un:=λj hj=>by
    unfold bw at e;have:=find?_eq_none.mp e (j:Int) (mem_map.mpr ⟨j,mem_range.mpr hj,rfl⟩);have:un.contains (j:Int)=true:=by cases hc:un.contains (j:Int) with|true=>rfl|false=>rw[hc]at this;exact absurd rfl this
    exact contains_iff_mem.mp this
   have:=hall n this;omega
 . intro e;cases hl:bw n un with
  |none=>rfl
  |some k =>
    have hf:=jn hl;obtain⟨h0,h1⟩:=mW hl;have hk:k ∉ un:=λz=>by rw[contains_iff_mem.mpr z]at hf;cases hf
    have nd:(k :: un).Nodup:=nodup_cons.mpr ⟨hk,h.1⟩;have:=jk (l:=k :: un) (ks:=(List.range n).map λ(k:Nat)=>(k:Int)) nd λx hx=>by
     have hb:0 <= x/\x < n:=by
      rcases mem_cons.mp hx with z|z
      . rw[z];exact⟨h0,h1⟩
      . exact h.2 x z
     obtain⟨j,rfl⟩:=Int.eq_ofNat_of_zero_le hb.1;exact mem_map.mpr ⟨j,mem_range.mpr (by have:=hb.2;omega),rfl⟩
    rw[length_map,length_range,length_cons]at this;omega
section
variable {s R:Int}{n:Nat}{S:YS}{es:List Ev}
theorem Q31.zero (hs:0 < s) (hs8:s <= 8) (hR:2 <= R) (n9:n <= 9):Q31 s R n YS.zero []:=⟨Q30.zero hs hs8 hR n9,List.Perm.refl _⟩
theorem Q31.pu (Q:Q31 s R n S es):((th .asked es).map (·.1)).Perm ((th .handed es).map (·.1)++S.un):=by
 have M:=Q.q.m;unfold M30 at M;have pm:=M.pm;have e1:(th .asked es).map (·.1)=(th .taken es).map (·.1)++((th .asked es).drop (th .taken es).length).map (·.1):=by
  have h:=Q.q.tk;have h2:th .taken es++(th .asked es).drop (th .taken es).length=th .asked es:=by
   have h3:=take_append_drop (th .taken es).length (th .asked es);rw[<-h]at h3;exact h3
  rw[<-map_append,h2]
 have e2:(th .answered es).map (·.1)=(th .handed es).map (·.1)++((th .answered es).drop (th .handed es).length).map (·.1):=by
  have h:=Q.q.hd;have h2:th .handed es++(th .answered es).drop (th .handed es).length=th .answered es:=by
   have h3:=take_append_drop (th .handed es).length (th .answered es);rw[<-h]at h3;exact h3
  rw[<-map_append,h2]
 rw[e1];refine(List.Perm.append_right _ Q.tp).trans ?_;rw[e2,List.append_assoc,List.append_assoc];refine List.Perm.append_left _ ?_;refine List.Perm.trans ?_ pm.symm;generalize ((th .answered es).drop (th .handed es).length).map (·.1)=b;generalize ((th .asked es).drop (th .taken es).length).map (·.1)=c;generalize S.tk=t;refine List.perm_append_comm.trans ?_;rw[<-List.append_assoc c];exact List.Perm.append_right _ List.perm_append_comm
theorem Q31.und (Q:Q31 s R n S es):Nms n S.un:=by have M:=Q.q.m;unfold M30 at M;exact M.und
theorem Q31.tkd (Q:Q31 s R n S es):Nms 9 S.tk:=by have M:=Q.q.m;unfold M30 at M;exact M.tkd
theorem Ap {ts:List Int}{a b:Int}:Dd.take.aft ts "none" (.tuple [.int a,.int b])=gM ts a:=if_pos rfl
theorem DG {ts:List Int}{nm wt:Int}{d:PyData}:(Dd.answer nm wt).aft ts "none" d=ts.erase nm:=if_pos rfl
theorem Q31.out (Q:Q31 s R n S es) (x:Dd):∃ fs:List Ev,fs.length <= 1/\x.hap (x.out (yp0 s R n) S).1 (x.out (yp0 s R n) S).2.1=fs.map evD/\Q31 s R n (x.out (yp0 s R n) S).2.2 (es++fs):=by
 have ht:=EK (q:=yp0 s R n) Q.tkd x;have tp:=Q.tp;have stay:(x.out (yp0 s R n) S).2.2.tk=S.tk->Q30 s R n (x.out (yp0 s R n) S).2.2 es->x.hap (x.out (yp0 s R n) S).1 (x.out (yp0 s R n) S).2.1=[]->∃ fs:List Ev,fs.length <= 1/\x.hap (x.out (yp0 s R n) S).1 (x.out (yp0 s R n) S).2.1=fs.map evD/\Q31 s R n (x.out (yp0 s R n) S).2.2 (es++fs):=λh1 h2 h3 =>
  ⟨[],zero_le _,h3,by rw[append_nil];exact⟨h2,by rw[h1];exact tp⟩⟩
 cases hc:x.chk (yp0 s R n) S with
|some r =>
  rw[Dd.out_some hc]at stay |-;exact stay rfl Q.q (by unfold Dd.hap;rw[if_neg r.key_ne])
|none =>
  rw[Dd.out_none hc]at stay ht |-;cases x with
 |ask wt =>
   have h':(if S.bd false=.up then (if az ⟨s,R,false⟩ S.m (S.rs false) .asked .taken=s then some Rf.full else match bw n S.un with|none=>some Rf.name|some _=>none) else some Rf.deed)=none:=hc;split at h'
   . split at h'
     . cases h'
     . rename_i hf;cases hl:bw n S.un with
      |none=>rw[hl]at h';cases h'
      |some nm =>
        have e1:((Dd.ask wt).run (yp0 s R n) S).1=.int nm:=by
         show (match bw n S.un with|some nm=>_|none=>_:PyData × YS).1=_;rw[hl]
        refine⟨[(.asked,nm,wt)],Nat.le_refl _,?_,Q.q.ask hf hl,?_⟩
        . rw[e1];unfold Dd.hap;rw[if_pos rfl];rfl
        . rw[bc,bc,dJ (by decide),dJ (by decide),append_nil,append_nil,ht.trans (if_pos rfl)];exact tp
   . cases h'
 |collect =>
   by_cases h:az ⟨s,R,false⟩ S.m (S.rs false) .answered .handed=0
   . have e1:Dd.collect.run (yp0 s R n) S=(.none,S):=if_pos h;rw[e1]at stay |-;exact stay rfl Q.q (by unfold Dd.hap;rw[if_pos rfl])
   . obtain⟨nw,_,e1,Q'⟩:=Q.q.collect h;refine⟨[(.handed,nw.1,nw.2)],Nat.le_refl _,?_,Q',?_⟩
     . rw[e1];unfold Dd.hap;rw[if_pos rfl];rfl
     . rw[bc,bc,dJ (by decide),dJ (by decide),append_nil,append_nil,ht.trans (if_pos rfl)];exact tp
 |take =>
   by_cases h:az ⟨s,R,false⟩ S.m (S.rs true) .asked .taken=0
   . have e1:Dd.take.run (yp0 s R n) S=(.none,S):=if_pos h;rw[e1]at stay |-;exact stay rfl Q.q (by unfold Dd.hap;rw[if_pos rfl])
   . obtain⟨nw,h1,e1,Q'⟩:=Q.q.take h;have M:=Q.q.m;unfold M30 at M;obtain⟨nw2,h2,_,_,h4,_,_⟩:=M8.takeR M (by rw[dY rfl rfl];exact h);rw[h1]at h2;cases h2;refine⟨[(.taken,nw.1,nw.2)],Nat.le_refl _,?_,Q',?_⟩
     . rw[e1];unfold Dd.hap;rw[if_pos rfl];rfl
     . rw[bc,bc,gp,dJ (by decide),append_nil,ht,e1,Ap];have g:gM S.tk nw.1=S.tk++[nw.1]:=by unfold gM;rw[h4];rfl
       rw[g,map_append,<-List.append_assoc];exact List.Perm.append_right _ tp
 |answer nm wt =>
   have h':(if S.bd true=.up then (if S.tk.contains nm=false then some Rf.task else if az ⟨s,R,false⟩ S.m (S.rs true) .answered .handed=s then some Rf.full else none) else some Rf.deed)=none:=hc;split at h'
   . split at h'
     . cases h'
     . rename_i hm;split at h'
       . cases h'
       . rename_i hf;refine⟨[(.answered,nm,wt)],Nat.le_refl _,?_,Q.q.answer hm hf,?_⟩
         . unfold Dd.hap;rw[if_pos rfl];rfl
         . rw[bc,bc,gp,dJ (by decide),append_nil,ht,DG];show ((th .taken es).map (·.1)).Perm ((th .answered es++[(nm,wt)]).map (·.1)++S.tk.erase nm);have hm':nm∈S.tk:=contains_iff_mem.mp (by cases hh:S.tk.contains nm with|true=>rfl|false=>exact absurd hh hm);rw[map_append,List.append_assoc];exact tp.trans (List.Perm.append_left _ (List.perm_cons_erase hm'))
   . cases h'
 |bell b=>exact stay (ht.trans (if_pos rfl)) (Q.q.rest (x:=.bell b) trivial) (by unfold Dd.hap;rw[if_pos rfl])
 |lie b=>exact stay (ht.trans (if_pos rfl)) (Q.q.rest (x:=.lie b) trivial) (by unfold Dd.hap;rw[if_pos rfl])
 |look b=>exact stay (ht.trans (if_pos rfl)) (Q.q.rest (x:=.look b) trivial) (by unfold Dd.hap;rw[if_pos rfl])
 |drain b=>exact stay (ht.trans (if_pos rfl)) (Q.q.rest (x:=.drain b) trivial) (by unfold Dd.hap;rw[if_pos rfl])
end
end L2
set_option maxHeartbeats 4000000
namespace My
open PySem L2
local macro_rules
 |`($x∣$y)=>`(@yL _ _ _ _ _ $x $y (by rfl))
 |`($x∪$y)=>`(@B9 _ _ _ _ _ $x $y)
 |`($x∩$y)=>`(@ax _ _ _ _ _ _ _ ar $x $y (fun _ _ => rfl))
 |`($x⊆$y)=>`(@ax _ _ _ _ _ _ _ bo $x $y (fun _ _ => rfl))
 |`($x⁻¹)=>`(@ap _ _ _ (@ES _ _ _ _ $x))
def top (i:Nat):Stmt:=PySem.Challenge.pw_askring_k30_whole_counters_and_places_te.main.body.getD i (.Pass ⟨0,0,0,0⟩)
abbrev gz:Stmt:=top 8
abbrev lB:Stmt:=top 9
abbrev lP:Stmt:=top 10
abbrev i8:Stmt:=top 14
abbrev iV:Stmt:=aF (top 15) 0
abbrev io:Stmt:=aF (top 15) 1
abbrev gv:Stmt:=aF (top 15) 2
abbrev fH:Stmt:=aF (top 15) 3
abbrev cS:Stmt:=aF (top 15) 4
abbrev lL:Stmt:=aF (top 15) 5
abbrev iX:Stmt:=aF (top 15) 6
abbrev j7:Stmt:=aF (top 17) 0
abbrev eh:Stmt:=aF (top 17) 2
abbrev eU:Stmt:=aF (top 17) 3
abbrev lQ:Stmt:=aF (top 17) 4
abbrev gC:Stmt:=aF (top 17) 5
abbrev eT:Stmt:=aF (top 17) 6
abbrev cg:Stmt:=aF (top 17) 7
abbrev gU:Stmt:=aF (top 19) 0
abbrev jd:Stmt:=aF (top 19) 2
abbrev cV:Stmt:=aF (top 19) 3
abbrev gD:Stmt:=aF (top 19) 4
abbrev im:Stmt:=aF (top 19) 5
abbrev c6:Stmt:=aF (top 19) 6
abbrev gW:Stmt:=aF (top 21) 0
abbrev gX:Stmt:=aF (top 21) 2
abbrev gT:Stmt:=aF (top 21) 3
abbrev i9:Stmt:=aF (top 21) 4
abbrev j9:Stmt:=aF (top 21) 5
abbrev gw:Stmt:=aF (top 21) 6
abbrev iD:Stmt:=aF (top 21) 7
abbrev hU:Stmt:=aF (top 21) 8
abbrev lz:Stmt:=top 26
abbrev o4:Stmt:=top 27
abbrev om:Stmt:=top 28
abbrev nE:Stmt:=top 29
abbrev nU:Stmt:=top 30
abbrev jf:Stmt:=aF (top 31) 0
abbrev kf:Stmt:=aF (top 31) 1
abbrev j3:Stmt:=aF (top 31) 3
abbrev iP:Stmt:=aF (top 31) 4
abbrev gl:Stmt:=aF (top 31) 5
abbrev jb:Stmt:=aF (top 31) 8
abbrev j1:Stmt:=aF (top 31) 11
abbrev iA:Stmt:=aF (top 31) 14
abbrev eX:Stmt:=aF (top 31) 15
abbrev dE:Stmt:=aF (top 31) 16
abbrev gq:Stmt:=aF (top 31) 17
abbrev ib:Stmt:=aF (top 31) 18
abbrev gr:Stmt:=aF (top 31) 19
abbrev cj:Stmt:=aF (top 31) 20
abbrev hG:Stmt:=top 33
abbrev jV:Stmt:=top 34
abbrev lF:Stmt:=top 35
abbrev l9:Stmt:=top 36
abbrev jX:Stmt:=top 37
abbrev lG:Stmt:=top 38
abbrev k9:Stmt:=top 39
abbrev jQ:Stmt:=top 40
abbrev iY:Stmt:=top 41
abbrev k8:Stmt:=top 42
abbrev j0:Stmt:=top 43
abbrev jc:Stmt:=top 44
abbrev lq:Stmt:=top 45
abbrev jP:Stmt:=top 46
abbrev nQ:Stmt:=top 47
abbrev gm:Stmt:=top 48
abbrev DC:Stmt:=top 49
theorem aW {N P:List Str}{sc:Scope}(a:sc.kind=.function) (b:sc.isCoroutine=false) (c:sc.isGenerator=false) (h:N.Nodup/\N.take P.length=P/\(∀ x∈P,sc.names.lookup x=some .local\/sc.names.lookup x=some .cell)/\∀ y∈sc.names,y.2≠.free):FnScope N P sc:=⟨a,b,c,h.1,h.2.1,h.2.2.1,h.2.2.2⟩
theorem og:FnScope ["counter","size","rounds"] ["counter","size","rounds"] (ah gz):=aW rfl rfl rfl (by decide +kernel)
theorem vb:FnScope ["counter","size"] ["counter","size"] (ah lB):=aW rfl rfl rfl (by decide +kernel)
theorem uo:FnScope ["one","other","size","rounds"] ["one","other","size","rounds"] (ah lP):=aW rfl rfl rfl (by decide +kernel)
theorem oY:FnScope ["rounds","faults"] ["rounds","faults"] (ah i8):=aW rfl rfl rfl (by decide +kernel)
theorem qD:FnScope ["self","store","side","words","size","rounds","faults"] ["self","store","side","words","size","rounds","faults"] (ah iV):=aW rfl rfl rfl (by decide +kernel)
theorem gu:FnScope ["self","laid","fetched"] ["self"] (ah io):=aW rfl rfl rfl (by decide +kernel)
theorem oy:FnScope ["self"] ["self"] (ah gv):=aW rfl rfl rfl (by decide +kernel)
theorem ms:FnScope ["self","counter"] ["self","counter"] (ah fH):=aW rfl rfl rfl (by decide +kernel)
theorem iO:FnScope ["self","cell","counter"] ["self","cell","counter"] (ah cS):=aW rfl rfl rfl (by decide +kernel)
theorem oF:FnScope ["self","name","worth","counter"] ["self","name","worth"] (ah lL):=aW rfl rfl rfl (by decide +kernel)
theorem ij:FnScope ["self","counter","found"] ["self"] (ah iX):=aW rfl rfl rfl (by decide +kernel)
theorem rW:FnScope ["self","store","size","rounds","names","faults"] ["self","store","size","rounds","names","faults"] (ah j7):=aW rfl rfl rfl (by decide +kernel)
theorem ge:FnScope ["self","name"] ["self"] (ah eh):=aW rfl rfl rfl (by decide +kernel)
theorem lR:FnScope ["self"] ["self"] (ah eU):=aW rfl rfl rfl (by decide +kernel)
theorem oE:FnScope ["self","worth","name"] ["self","worth"] (ah lQ):=aW rfl rfl rfl (by decide +kernel)
theorem j6:FnScope ["self","told"] ["self"] (ah gC):=aW rfl rfl rfl (by decide +kernel)
theorem l8:FnScope ["self"] ["self"] (ah eT):=aW rfl rfl rfl (by decide +kernel)
theorem iC:FnScope ["self"] ["self"] (ah cg):=aW rfl rfl rfl (by decide +kernel)
theorem oR:FnScope ["self","store","size","rounds","faults"] ["self","store","size","rounds","faults"] (ah gU):=aW rfl rfl rfl (by decide +kernel)
theorem kL:FnScope ["self","told"] ["self"] (ah jd):=aW rfl rfl rfl (by decide +kernel)
theorem iT:FnScope ["self","name"] ["self","name"] (ah cV):=aW rfl rfl rfl (by decide +kernel)
theorem nZ:FnScope ["self","name","worth"] ["self","name","worth"] (ah gD):=aW rfl rfl rfl (by decide +kernel)
theorem pz:FnScope ["self"] ["self"] (ah im):=aW rfl rfl rfl (by decide +kernel)
theorem gL:FnScope ["self"] ["self"] (ah c6):=aW rfl rfl rfl (by decide +kernel)
theorem oQ:FnScope ["self"] ["self"] (ah gW):=aW rfl rfl rfl (by decide +kernel)
theorem oS:FnScope ["self","side","cell","worth"] ["self","side","cell","worth"] (ah gX):=aW rfl rfl rfl (by decide +kernel)
theorem jv:FnScope ["self","side","first"] ["self","side"] (ah gT):=aW rfl rfl rfl (by decide +kernel)
theorem p9:FnScope ["self","side"] ["self","side"] (ah i9):=aW rfl rfl rfl (by decide +kernel)
theorem kK:FnScope ["self","side","cell","waiting"] ["self","side","cell"] (ah j9):=aW rfl rfl rfl (by decide +kernel)
theorem nM:FnScope ["self","cell"] ["self","cell"] (ah gw):=aW rfl rfl rfl (by decide +kernel)
theorem pG:FnScope ["self","side"] ["self","side"] (ah iD):=aW rfl rfl rfl (by decide +kernel)
theorem pE:FnScope ["self"] ["self"] (ah hU):=aW rfl rfl rfl (by decide +kernel)
theorem uP:FnScope ["value"] ["value"] (ah lz):=aW rfl rfl rfl (by decide +kernel)
theorem xp:FnScope ["value","kind"] ["value","kind"] (ah o4):=aW rfl rfl rfl (by decide +kernel)
theorem q9:FnScope ["some","kinds"] ["some"] (ah om):=aW rfl rfl rfl (by decide +kernel)
theorem wz:FnScope ["some"] ["some"] (ah nE):=aW rfl rfl rfl (by decide +kernel)
theorem wR:FnScope ["cell"] ["cell"] (ah nU):=aW rfl rfl rfl (by decide +kernel)
theorem qT:FnScope ["self","size","rounds","names","faults"] ["self","size","rounds","names","faults"] (ah jf):=aW rfl rfl rfl (by decide +kernel)
theorem mj:FnScope ["self","some","word"] ["self","some"] (ah kf):=aW rfl rfl rfl (by decide +kernel)
theorem qY:FnScope ["self"] ["self"] (ah j3):=aW rfl rfl rfl (by decide +kernel)
theorem kW:FnScope ["self","cells"] ["self"] (ah iP):=aW rfl rfl rfl (by decide +kernel)
theorem nT:FnScope ["self","side"] ["self","side"] (ah gl):=aW rfl rfl rfl (by decide +kernel)
theorem qF:FnScope ["self"] ["self"] (ah jb):=aW rfl rfl rfl (by decide +kernel)
theorem qU:FnScope ["self","some"] ["self","some"] (ah j1):=aW rfl rfl rfl (by decide +kernel)
theorem jE:FnScope ["self","worth","name"] ["self","worth"] (ah iA):=aW rfl rfl rfl (by decide +kernel)
theorem lN:FnScope ["self","name","worth"] ["self","name","worth"] (ah eX):=aW rfl rfl rfl (by decide +kernel)
theorem jt:FnScope ["self","word","told"] ["self","word","told"] (ah dE):=aW rfl rfl rfl (by decide +kernel)
theorem ja:FnScope ["self","side","other"] ["self","side"] (ah gq):=aW rfl rfl rfl (by decide +kernel)
theorem p7:FnScope ["self","side"] ["self","side"] (ah ib):=aW rfl rfl rfl (by decide +kernel)
theorem oC:FnScope ["self","side"] ["self","side"] (ah gr):=aW rfl rfl rfl (by decide +kernel)
theorem ip:FnScope ["self","side"] ["self","side"] (ah cj):=aW rfl rfl rfl (by decide +kernel)
theorem pJ:FnScope ["script","k"] ["script","k"] (ah hG):=aW rfl rfl rfl (by decide +kernel)
theorem dF:FnScope ["cells","most","codes","cell","rest"] ["cells","most"] (ah jV):=aW rfl rfl rfl (by decide +kernel)
theorem cB:FnScope ["cell","drawn","size","faults","bits","word"] ["cell"] (ah lF):=aW rfl rfl rfl (by decide +kernel)
theorem nG:FnScope ["found","due","k"] ["found","due"] (ah l9):=aW rfl rfl rfl (by decide +kernel)
theorem rY:FnScope ["code"] ["code"] (ah jX):=aW rfl rfl rfl (by decide +kernel)
theorem fN:FnScope ["code","tasks","word","side","name"] ["code","tasks"] (ah lG):=aW rfl rfl rfl (by decide +kernel)
theorem bX:FnScope ["yard","deed","told","refused"] ["yard","deed"] (ah k9):=aW rfl rfl rfl (by decide +kernel)
theorem tW:FnScope ["tasks","deed","told"] ["tasks","deed","told"] (ah jQ):=aW rfl rfl rfl (by decide +kernel)
theorem qG:FnScope ["story","word"] ["story","word"] (ah iY):=aW rfl rfl rfl (by decide +kernel)
theorem sT:FnScope ["store","side","cell"] ["store","side","cell"] (ah k8):=aW rfl rfl rfl (by decide +kernel)
theorem c8:FnScope ["yard","story","store","counts","side","word","cell","many"] ["yard","story"] (ah j0):=aW rfl rfl rfl (by decide +kernel)
theorem aV:FnScope ["yard","story","size","rounds","store","counts","side","word","many","seen","gone","kind","things","k"] ["yard","story","size","rounds"] (ah jc):=aW rfl rfl rfl (by decide +kernel)
theorem jO:FnScope ["some","others","left","name"] ["some","others"] (ah lq):=aW rfl rfl rfl (by decide +kernel)
theorem iQ:FnScope ["story","names","word"] ["story"] (ah jP):=aW rfl rfl rfl (by decide +kernel)
theorem fj:FnScope ["yard","story","deed","size","many","counts","names","tasks","word","gone"] ["yard","story","deed","size","many"] (ah nQ):=aW rfl rfl rfl (by decide +kernel)
theorem nu:FnScope ["deed","told"] ["deed","told"] (ah gm):=aW rfl rfl rfl (by decide +kernel)
theorem dS:FnScope ["script","size","rounds","many","faults","yard","tasks","story","code","deed","works","awake","due","told","names","known"] ["script"] (ah DC):=aW rfl rfl rfl (by decide +kernel)
set_option genInjectivity false
set_option genSizeOfSpec false
structure Ad where
 cy:Addr
 gZ:Addr
 gY:Addr
 dD:Addr
 eE:Addr
 dc:Addr
 cJ:Addr
 c9:Addr
 bh:Addr
 hV:Addr
 en:Addr
 eF:Addr
 bD:Addr
 bM:Addr
 ie:Addr
 cu:Addr
 bQ:Addr
 aY:Addr
 d9:Addr
 ez:Addr
 bn:Addr
 cI:Addr
 d7:Addr
 aU:Addr
 dw:Addr
 du:Addr
 dj:Addr
 di:Addr
 eJ:Addr
 cz:Addr
 d8:Addr
 dn:Addr
 i6:Addr
 jJ:Addr
 jH:Addr
 jK:Addr
 jG:Addr
 dW:Addr
 fw:Addr
 dZ:Addr
 eC:Addr
 cE:Addr
 eo:Addr
 eB:Addr
 dC:Addr
 bP:Addr
 bp:Addr
 cG:Addr
 de:Addr
 cw:Addr
 aZ:Addr
 dm:Addr
 fE:Addr
 i4:Addr
 ix:Addr
 fI:Addr
 hZ:Addr
 fR:Addr
 fL:Addr
 eA:Addr
 fO:Addr
 dX:Addr
 eG:Addr
 hX:Addr
 fM:Addr
 jY:Addr
 cK:Addr
 law:Addr
 cr:Addr
 dQ:Addr
 bu:Addr
 aJ:Addr
 bx:Addr
 zj:Addr
 uM:Addr
 gI:Addr
 gQ:Addr
 iE:Addr
 jA:Addr
 cW:Addr
 aQ:Addr
 jT:Addr
 fJ:Addr
 fm:Addr
 fB:Addr
 fA:Addr
 fU:Addr
 fF:Addr
 fV:Addr
 fW:Addr
structure Fd where
 cy:FuncData
 gZ:FuncData
 gY:FuncData
 dD:FuncData
 eE:FuncData
 dc:FuncData
 cJ:FuncData
 c9:FuncData
 bh:FuncData
 hV:FuncData
 en:FuncData
 eF:FuncData
 bD:FuncData
 bM:FuncData
 ie:FuncData
 cu:FuncData
 bQ:FuncData
 aY:FuncData
 d9:FuncData
 ez:FuncData
 bn:FuncData
 cI:FuncData
 d7:FuncData
 aU:FuncData
 dw:FuncData
 du:FuncData
 dj:FuncData
 di:FuncData
 eJ:FuncData
 cz:FuncData
 d8:FuncData
 dn:FuncData
 i6:FuncData
 jJ:FuncData
 jH:FuncData
 jK:FuncData
 jG:FuncData
 dW:FuncData
 fw:FuncData
 dZ:FuncData
 eC:FuncData
 cE:FuncData
 eo:FuncData
 eB:FuncData
 dC:FuncData
 bP:FuncData
 bp:FuncData
 cG:FuncData
 de:FuncData
 cw:FuncData
 aZ:FuncData
 dm:FuncData
 fE:FuncData
 i4:FuncData
 ix:FuncData
 fI:FuncData
 hZ:FuncData
 fR:FuncData
 fL:FuncData
 eA:FuncData
 fO:FuncData
 dX:FuncData
 eG:FuncData
 hX:FuncData
 fM:FuncData
 jY:FuncData
 cK:FuncData
 law:FuncData
structure Gs (K:PySem.W.Frag) (mg:Str->Option Value) (a:Ad) (d:Fd):Prop where
 jF:Fun K "next_counter" "next_counter" gz a.cy d.cy
 oH:aC K d.cy ["counter","size","rounds"] []
 pj:mg "next_counter"=some (.ref a.cy)
 pM:Fun K "place_of" "place_of" lB a.gZ d.gZ
 wM:aC K d.gZ ["counter","size"] []
 xF:mg "place_of"=some (.ref a.gZ)
 qf:Fun K "ahead_by" "ahead_by" lP a.gY d.gY
 xm:aC K d.gY ["one","other","size","rounds"] []
 xA:mg "ahead_by"=some (.ref a.gY)
 ir:Fun K "rounds_with" "rounds_with" i8 a.dD d.dD
 kC:aC K d.dD ["rounds","faults"] []
 kq:mg "rounds_with"=some (.ref a.dD)
 tO:Fun K "__init__" "Ring.__init__" iV a.eE d.eE
 gc:aC K d.eE ["self","store","side","words","size","rounds","faults"] []
 rD:Fun K "filled" "Ring.filled" io a.dc d.dc
 ff:aC K d.dc ["self"] []
 eK:Meth K a.cr "filled" a.dc
 p8:Fun K "is_full" "Ring.is_full" gv a.cJ d.cJ
 jD:aC K d.cJ ["self"] []
 iS:Meth K a.cr "is_full" a.cJ
 nW:Fun K "place_at" "Ring.place_at" fH a.c9 d.c9
 j8:aC K d.c9 ["self","counter"] []
 iH:Meth K a.cr "place_at" a.c9
 jr:Fun K "write_further" "Ring.write_further" cS a.bh d.bh
 cQ:aC K d.bh ["self","cell","counter"] []
 cx:Meth K a.cr "write_further" a.bh
 xE:Fun K "lay" "Ring.lay" lL a.hV d.hV
 pL:aC K d.hV ["self","name","worth"] []
 nY:Meth K a.cr "lay" a.hV
 tK:Fun K "fetch" "Ring.fetch" iX a.en d.en
 lW:aC K d.en ["self"] []
 ky:Meth K a.cr "fetch" a.en
 sG:Fun K "__init__" "Hand.__init__" j7 a.eF d.eF
 sH:aC K d.eF ["self","store","size","rounds","names","faults"] []
 lD:Fun K "least_free" "Hand.least_free" eh a.bD d.bD
 gF:aC K d.bD ["self"] []
 g6:Meth K a.dQ "least_free" a.bD
 mG:Fun K "check_ask" "Hand.check_ask" eU a.bM d.bM
 iG:aC K d.bM ["self"] []
 gE:Meth K a.dQ "check_ask" a.bM
 ww:Fun K "ask" "Hand.ask" lQ a.ie d.ie
 x6:aC K d.ie ["self","worth"] []
 uf:Meth K a.dQ "ask" a.ie
 pF:Fun K "collect" "Hand.collect" gC a.cu d.cu
 oP:aC K d.cu ["self"] []
 nO:Meth K a.dQ "collect" a.cu
 mz:Fun K "under_way" "Hand.under_way" eT a.bQ d.bQ
 mD:aC K d.bQ ["self"] []
 lC:Meth K a.dQ "under_way" a.bQ
 iM:Fun K "something_waits" "Hand.something_waits" cg a.aY d.aY
 iN:aC K d.aY ["self"] []
 gS:Meth K a.dQ "something_waits" a.aY
 rL:Fun K "__init__" "Heart.__init__" gU a.d9 d.d9
 qH:aC K d.d9 ["self","store","size","rounds","faults"] []
 u8:Fun K "take" "Heart.take" jd a.ez d.ez
 sy:aC K d.ez ["self"] []
 rV:Meth K a.bu "take" a.ez
 ju:Fun K "check_answer" "Heart.check_answer" cV a.bn d.bn
 f7:aC K d.bn ["self","name"] []
 eP:Meth K a.bu "check_answer" a.bn
 pA:Fun K "answer" "Heart.answer" gD a.cI d.cI
 pd:aC K d.cI ["self","name","worth"] []
 oz:Meth K a.bu "answer" a.cI
 qx:Fun K "tasks" "Heart.tasks" im a.d7 d.d7
 rC:aC K d.d7 ["self"] []
 oN:Meth K a.bu "tasks" a.d7
 iw:Fun K "something_waits" "Heart.something_waits" c6 a.aU d.aU
 i5:aC K d.aU ["self"] []
 gG:Meth K a.bu "something_waits" a.aU
 qV:Fun K "__init__" "Store.__init__" gW a.dw d.dw
 rG:aC K d.dw ["self"] []
 qM:Fun K "write" "Store.write" gX a.du d.du
 dO:aC K d.du ["self","side","cell","worth"] []
 cX:Meth K a.aJ "write" a.du
 qp:Fun K "drain" "Store.drain" gT a.dj d.dj
 kZ:aC K d.dj ["self","side"] []
 jx:Meth K a.aJ "drain" a.dj
 qz:Fun K "fence" "Store.fence" i9 a.di d.di
 l5:aC K d.di ["self","side"] []
 jC:Meth K a.aJ "fence" a.di
 tE:Fun K "read" "Store.read" j9 a.eJ d.eJ
 bY:aC K d.eJ ["self","side","cell"] []
 bH:Meth K a.aJ "read" a.eJ
 pi:Fun K "memory" "Store.memory" gw a.cz d.cz
 gs:aC K d.cz ["self","cell"] []
 fG:Meth K a.aJ "memory" a.cz
 qZ:Fun K "waits" "Store.waits" iD a.d8 d.d8
 fe:aC K d.d8 ["self","side"] []
 eM:Meth K a.aJ "waits" a.d8
 rK:Fun K "cells" "Store.cells" hU a.dn d.dn
 qB:aC K d.dn ["self"] []
 pB:Meth K a.aJ "cells" a.dn
 pW:Fun K "is_whole" "is_whole" lz a.i6 d.i6
 wH:aC K d.i6 ["value"] []
 wG:mg "is_whole"=some (.ref a.i6)
 t9:Fun K "is_part" "is_part" o4 a.jJ d.jJ
 A7:aC K d.jJ ["value","kind"] []
 xY:mg "is_part"=some (.ref a.jJ)
 sN:Fun K "is_deed" "is_deed" om a.jH d.jH
 yc:aC K d.jH ["some"] []
 yS:mg "is_deed"=some (.ref a.jH)
 sv:Fun K "side_of" "side_of" nE a.jK d.jK
 yN:aC K d.jK ["some"] []
 A6:mg "side_of"=some (.ref a.jK)
 yR:Fun K "text_of" "text_of" nU a.jG d.jG
 xI:aC K d.jG ["cell"] []
 zG:mg "text_of"=some (.ref a.jG)
 tm:Fun K "__init__" "Yard.__init__" jf a.dW d.dW
 tL:aC K d.dW ["self","size","rounds","names","faults"] []
 uq:Fun K "deed" "Yard.deed" kf a.fw d.fw
 ue:aC K d.fw ["self","some"] []
 sB:Meth K a.bx "deed" a.fw
 sQ:Fun K "story" "Yard.story" j3 a.dZ d.dZ
 sx:aC K d.dZ ["self"] []
 rP:Meth K a.bx "story" a.dZ
 sL:Fun K "state" "Yard.state" iP a.eC d.eC
 tQ:aC K d.eC ["self"] []
 qv:Meth K a.bx "state" a.eC
 oK:Fun K "sleeper" "Yard.sleeper" gl a.cE d.cE
 oJ:aC K d.cE ["self","side"] []
 o5:Meth K a.bx "sleeper" a.cE
 sX:Fun K "store" "Yard.store" jb a.eo d.eo
 m9:aC K d.eo ["self"] []
 kQ:Meth K a.bx "store" a.eo
 sA:Fun K "check" "Yard.check" j1 a.eB d.eB
 tz:aC K d.eB ["self","some"] []
 rH:Meth K a.bx "check" a.eB
 r8:Fun K "do_ask" "Yard.do_ask" iA a.dC d.dC
 rJ:aC K d.dC ["self","worth"] []
 oM:Meth K a.bx "do_ask" a.dC
 mE:Fun K "do_answer" "Yard.do_answer" eX a.bP d.bP
 mr:aC K d.bP ["self","name","worth"] []
 ln:Meth K a.bx "do_answer" a.bP
 jW:Fun K "tell_fetched" "Yard.tell_fetched" dE a.bp d.bp
 fP:aC K d.bp ["self","word","told"] []
 f6:Meth K a.bx "tell_fetched" a.bp
 pq:Fun K "do_bell" "Yard.do_bell" gq a.cG d.cG
 ph:aC K d.cG ["self","side"] []
 nI:Meth K a.bx "do_bell" a.cG
 qE:Fun K "do_lie" "Yard.do_lie" ib a.de d.de
 qX:aC K d.de ["self","side"] []
 pK:Meth K a.bx "do_lie" a.de
 pC:Fun K "do_look" "Yard.do_look" gr a.cw d.cw
 oO:aC K d.cw ["self","side"] []
 oi:Meth K a.bx "do_look" a.cw
 iK:Fun K "something_waits" "Yard.something_waits" cj a.aZ d.aZ
 iL:aC K d.aZ ["self","side"] []
 i7:Meth K a.bx "something_waits" a.aZ
 kG:Fun K "_law_cell_at" "_law_cell_at" hG a.dm d.dm
 rp:aC K d.dm ["script","k"] []
 rB:mg "_law_cell_at"=some (.ref a.dm)
 ou:Fun K "_law_codes" "_law_codes" jV a.fE d.fE
 uv:aC K d.fE ["cells","most"] []
 uN:mg "_law_codes"=some (.ref a.fE)
 qa:Fun K "_law_make" "_law_make" lF a.i4 d.i4
 wS:aC K d.i4 ["cell"] []
 wQ:mg "_law_make"=some (.ref a.i4)
 gN:Fun K "_law_same" "_law_same" l9 a.ix d.ix
 jo:aC K d.ix ["found","due"] []
 jh:mg "_law_same"=some (.ref a.ix)
 jU:Fun K "_law_worth" "_law_worth" jX a.fI d.fI
 oj:aC K d.fI ["code"] []
 oh:mg "_law_worth"=some (.ref a.fI)
 pS:Fun K "_law_deed" "_law_deed" lG a.hZ d.hZ
 x9:aC K d.hZ ["code","tasks"] []
 wP:mg "_law_deed"=some (.ref a.hZ)
 n5:Fun K "_law_tried" "_law_tried" k9 a.fR d.fR
 ug:aC K d.fR ["yard","deed"] []
 ut:mg "_law_tried"=some (.ref a.fR)
 oa:Fun K "_law_after" "_law_after" jQ a.fL d.fL
 uE:aC K d.fL ["tasks","deed","told"] []
 uO:mg "_law_after"=some (.ref a.fL)
 eS:Fun K "_law_things" "_law_things" iY a.eA d.eA
 gk:aC K d.eA ["story","word"] []
 gi:mg "_law_things"=some (.ref a.eA)
 mY:Fun K "_law_waits" "_law_waits" k8 a.fO d.fO
 ur:aC K d.fO ["store","side","cell"] []
 uz:mg "_law_waits"=some (.ref a.fO)
 iR:Fun K "_law_counts" "_law_counts" j0 a.dX d.dX
 mi:aC K d.dX ["yard","story"] []
 lV:mg "_law_counts"=some (.ref a.dX)
 mo:Fun K "_law_stands" "_law_stands" jc a.eG d.eG
 sh:aC K d.eG ["yard","story","size","rounds"] []
 sJ:mg "_law_stands"=some (.ref a.eG)
 li:Fun K "_law_less" "_law_less" lq a.hX d.hX
 qi:aC K d.hX ["some","others"] []
 pY:mg "_law_less"=some (.ref a.hX)
 jI:Fun K "_law_names" "_law_names" jP a.fM d.fM
 o7:aC K d.fM ["story"] []
 nV:mg "_law_names"=some (.ref a.fM)
 sY:Fun K "_law_due" "_law_due" nQ a.jY d.jY
 yJ:aC K d.jY ["yard","story","deed","size","many"] []
 yy:mg "_law_due"=some (.ref a.jY)
 jy:Fun K "_law_happened" "_law_happened" gm a.cK d.cK
 oI:aC K d.cK ["deed","told"] []
 oX:mg "_law_happened"=some (.ref a.cK)
 FP:Fun K "law" "law" DC a.law d.law
 HV:aC K d.law ["script"] []
 Ho:mg "law"=some (.ref a.law)
 au:Cls K a.cr
 vK:mg "Ring"=some (.ref a.cr)
 vt:Mk K a.cr a.eE
 bA:be K a.cr "shelf"
 bJ:be K a.cr "side"
 m7:be K a.cr "word"
 eN:be K a.cr "laid"
 dL:be K a.cr "fetched"
 eO:be K a.cr "size"
 gB:be K a.cr "rounds"
 bK:be K a.cr "counter_first"
 bE:Cls K a.dQ
 EE:mg "Hand"=some (.ref a.dQ)
 EA:Mk K a.dQ a.eF
 iW:be K a.dQ "asks"
 fo:be K a.dQ "answers"
 kJ:be K a.dQ "names"
 cM:be K a.dQ "going"
 bI:Cls K a.bu
 DJ:mg "Heart"=some (.ref a.bu)
 DL:Mk K a.bu a.d9
 iz:be K a.bu "asks"
 eW:be K a.bu "answers"
 cY:be K a.bu "doing"
 aA:Cls K a.aJ
 DN:mg "Store"=some (.ref a.aJ)
 DH:Mk K a.aJ a.dw
 dM:be K a.aJ "held"
 c7:be K a.aJ "rows"
 am:Cls K a.bx
 EG:mg "Yard"=some (.ref a.bx)
 Fl:Mk K a.bx a.dW
 sj:be K a.bx "size"
 oU:be K a.bx "rounds"
 oV:be K a.bx "faults"
 aG:be K a.bx "shelf"
 dI:be K a.bx "hand"
 cN:be K a.bx "heart"
 fQ:be K a.bx "bell_fences"
 fZ:be K a.bx "lie_fences"
 gJ:be K a.bx "look_sees"
 aM:be K a.bx "sleepers"
 f8:be K a.bx "quiet"
 ce:be K a.bx "happened"
 G6:mg "all"=none
 vE:mg "bool"=none
 uW:mg "int"=none
 aP:mg "isinstance"=none
 lc:mg "len"=none
 vA:mg "list"=none
 qL:mg "range"=none
 wx:mg "reversed"=none
 mH:mg "sorted"=none
 Ae:mg "str"=none
 dP:mg "tuple"=none
 GJ:mg "zip"=none
 CO:mg "RingError"=some (.ref a.zj)
 zF:mg "Full"=some (.ref a.uM)
 vX:mg "NoName"=some (.ref a.gI)
 wq:mg "NoTask"=some (.ref a.gQ)
 mT:mg "NoDeed"=some (.ref a.iE)
 BV:mg "ASKS"=some (.ref a.jA)
 Cd:∀ H,SqT K H a.jA [.str "ask",.str "asked",.str "taken"]
 tV:mg "ANSWERS"=some (.ref a.cW)
 sK:∀ H,SqT K H a.cW [.str "answer",.str "answered",.str "handed"]
 f9:mg "SLEEP_CELLS"=some (.ref a.aQ)
 fg:∀ H,SqT K H a.aQ [.str "hand sleeps",.str "heart sleeps"]
 lU:∃ t,mg "MOST_WORTH"=some (.int 1000000000 t)
 E8:mg "FORMS"=some (.ref a.jT)
 Ee:GZ K a.jT [("ask",a.fJ),("collect",a.fm),("take",a.fB),("answer",a.fA),("bell",a.fU),("lie",a.fF),("look",a.fV),("drain",a.fW)]
 yZ:∀ H,SqT K H a.fJ [.str "worth"]
 yT:∀ H,SqT K H a.fm []
 yB:∀ H,SqT K H a.fB []
 zK:∀ H,SqT K H a.fA [.str "name",.str "worth"]
 y8:∀ H,SqT K H a.fU [.str "side"]
 zC:∀ H,SqT K H a.fF [.str "side"]
 zV:∀ H,SqT K H a.fV [.str "side"]
 zv:∀ H,SqT K H a.fW [.str "side"]
 xc_Full:excIn K a.uM veB "ValueError.__new__"=true
 xc_NoName:excIn K a.gI veB "ValueError.__new__"=true
 xc_NoTask:excIn K a.gQ veB "ValueError.__new__"=true
 xc_NoDeed:excIn K a.iE veB "ValueError.__new__"=true
 Gj:exmOne K (.ref a.iE) (.ref a.iE)=some true
 Hs:exmOne K (.ref a.iE) (.ref a.uM)=some false
 HU:exmOne K (.ref a.iE) (.ref a.gI)=some false
 I9:exmOne K (.ref a.iE) (.ref a.gQ)=some false
 FY:exmOne K (.ref a.uM) (.ref a.iE)=some false
 FN:exmOne K (.ref a.uM) (.ref a.uM)=some true
 HL:exmOne K (.ref a.uM) (.ref a.gI)=some false
 Hv:exmOne K (.ref a.uM) (.ref a.gQ)=some false
 GM:exmOne K (.ref a.gI) (.ref a.iE)=some false
 GR:exmOne K (.ref a.gI) (.ref a.uM)=some false
 Gh:exmOne K (.ref a.gI) (.ref a.gI)=some true
 Hu:exmOne K (.ref a.gI) (.ref a.gQ)=some false
 GH:exmOne K (.ref a.gQ) (.ref a.iE)=some false
 GI:exmOne K (.ref a.gQ) (.ref a.uM)=some false
 GL:exmOne K (.ref a.gQ) (.ref a.gI)=some false
 FR:exmOne K (.ref a.gQ) (.ref a.gQ)=some true
set_option genInjectivity true
set_option genSizeOfSpec true
theorem qK {c A B:Prop} [Decidable c] (hc:¬ c) (h:B):if decide c=true then A else B:=by
 rw[decide_eq_false hc];exact cU h
theorem yt {c A B:Prop} [Decidable c] (hc:c) (h:A):if decide c=true then A else B:=by
 rw[decide_eq_true hc];exact fX h
theorem fh {i j:Int}(h:V.int i=V.int j):i=j:=by injection h
theorem sne {a b:Str}(h:a≠b):¬ V.str a=V.str b:=λy=>h (by injection y)
theorem l3 {x y z:V}:[x,y,z].length <= sizeLine:=by show 3 <= sizeLine;decide
def xJ (w:World) (C:Addr):Sp:=λvs H Q _=>∃ x dx,vs=[.ref x]/\H x=some (.ins C dx []) /\
 ∀ (hd rl:Addr) (l:Bool->Addr) (H':Hp),H hd=none->H rl=none->(∀ b,H (l b)=none)->Sto w C H' x hd rl l [] (λ_=>[])->Kp [x] H H'->Q .non H'
def vn (w:World) (C:Addr):Sp:=λvs H Q _=>∃ (x hd rl:Addr) (l:Bool->Addr) (M:List (PyData × V)) (r:Bool->List (PyData × V)) (b:Bool) (cv wv:V) (k:PyData),vs=[.ref x,.int (sdI b),cv,wv]/\Sto w C H x hd rl l M r/\(r b).length < 100000/\mL H k cv /\
 ∀ H',Sto w C H' x hd rl l M (ba r b (r b++[(k,wv)]))->Kp [l b] H H'->Q .non H'
def vV (w:World) (C:Addr):Sp:=λvs H Q _=>∃ (x hd rl:Addr) (l:Bool->Addr) (M:List (PyData × V)) (r:Bool->List (PyData × V)) (b:Bool) (k:PyData) (v:V) (rest:List (PyData × V)),vs=[.ref x,.int (sdI b)]/\Sto w C H x hd rl l M r/\r b=(k,v) :: rest/\M.length < 100000 /\
 ∀ H',Sto w C H' x hd rl l (ub M k v) (ba r b rest)->Kp [l b,hd] H H'->Q .non H'
def vm (w:World) (C:Addr):Sp:=λvs H Q _=>∃ (x hd rl:Addr) (l:Bool->Addr) (M:List (PyData × V)) (r:Bool->List (PyData × V)) (b:Bool),vs=[.ref x,.int (sdI b)]/\Sto w C H x hd rl l M r/\M.length+(r b).length < 100000 /\
 ∀ H',Sto w C H' x hd rl l (kO M (r b)) (ba r b [])->Kp [l b,hd] H H'->Q .non H'
def uL (w:World) (C:Addr):Sp:=λvs H Q _=>∃ (x hd rl:Addr) (l:Bool->Addr) (M:List (PyData × V)) (r:Bool->List (PyData × V)) (b:Bool) (cv:V) (k:PyData),vs=[.ref x,.int (sdI b),cv]/\Sto w C H x hd rl l M r/\mL H k cv/\Q (cC M (r b) k) H
def oA (w:World) (C:Addr):Sp:=λvs H Q _=>∃ (x hd rl:Addr) (l:Bool->Addr) (M:List (PyData × V)) (r:Bool->List (PyData × V)) (cv:V) (k:PyData),vs=[.ref x,cv]/\Sto w C H x hd rl l M r/\mL H k cv/\Q ((cH M k).getD (.int 0)) H
def vU (w:World) (C:Addr):Sp:=λvs H Q _=>∃ (x hd rl:Addr) (l:Bool->Addr) (M:List (PyData × V)) (r:Bool->List (PyData × V)) (b:Bool),vs=[.ref x,.int (sdI b)]/\Sto w C H x hd rl l M r /\
 ∀ (p:Addr) (ts:List V),H p=none->Paired (Wt H) (r b) ts->Q (.ref p) (upd H p (.lst ts))
theorem GS:100000 <= sizeLine:=by decide
theorem l2 {x y:V}:[x,y].length <= sizeLine:=by show 2 <= sizeLine;decide
section
variable {P:Program}{w:World}{K:PySem.W.Frag}{mg:Str->Option Value}{base:Heap}{a:Ad}{d:Fd}
theorem DU (G:Gs K mg a d):FnOk P w K mg base CX0 1 a.dw d.dw ["self"] (xJ w a.aJ):=by
 refine G.qV.ok oQ (λvs H Q E h=>?_) (λcdv A outer s H vs Q E hr h=>?_)
 . obtain⟨x,dx,rfl,_⟩:=h;rfl
 . obtain⟨x,dx,rfl,hx,k⟩:=h;refine⟨_,((bL (pv 0) D9 rfl)∪(@ap _ _ _ (bL (pv 0) (@bV _ _ _ _ ((@bV _ _ _ _ a9)∣((@bV _ _ _ _ a9)∣a9))) rfl))),?_⟩;intro hd hhd;have n0:x≠hd:=ae hx hhd;refine⟨_,rfl,x,a.aJ,dx,[],rfl,(by rw[aa n0];exact hx),G.aA,G.dM,(by show 0 < 1000;decide),?_⟩;refine⟨by show 0 <= sizeLine;decide,λl0 h0=>⟨by show 0 <= sizeLine;decide,λl1 h1=>⟨l2,λrl hrl=>⟨_,rfl,x,a.aJ,dx,bO "held" (.ref hd) [],rfl,?_,G.aA,G.c7,by show 1 < 1000;decide,?_⟩⟩⟩⟩
   all_goals
    have m0:x≠l0:=ae a6 h0;have m1:x≠l1:=ae (o:=.ins a.aJ dx (bO "held" (.ref hd) [])) (by rw[aa m0];exact a6) h1;have m2:x≠rl:=ae (o:=.ins a.aJ dx (bO "held" (.ref hd) [])) (by rw[aa m1,aa m0];exact a6) hrl
   . rw[aa m2,aa m1,aa m0];exact a6
   . have q0:hd≠l0:=ae (o:=ki hd [] 0) (by rw[aa n0.symm];exact a6) h0;have q1:hd≠l1:=ae (o:=ki hd [] 0) (by rw[aa q0,aa n0.symm];exact a6) h1;have q2:hd≠rl:=ae (o:=ki hd [] 0) (by rw[aa q1,aa q0,aa n0.symm];exact a6) hrl;have r1:l0≠l1:=ae a6 h1;have r2:l0≠rl:=ae (o:=.lst []) (by rw[aa r1];exact a6) hrl;have r3:l1≠rl:=ae a6 hrl;have e0:∀ c o,H c=some o->c≠hd:=λc o e=>ae e hhd
     have f0:H l0=none:=by
      cases z:H l0 with
     |none=>rfl
     |some o=>rw[aa m0.symm,aa q0.symm,z]at h0;cases h0
     have f1:H l1=none:=by
      cases z:H l1 with
     |none=>rfl
     |some o=>rw[aa r1.symm,aa m1.symm,aa q1.symm,z]at h1;cases h1
     have f2:H rl=none:=by
      cases z:H rl with
     |none=>rfl
     |some o=>rw[aa r3.symm,aa r2.symm,aa m2.symm,aa q2.symm,z]at hrl;cases hrl
     refine k hd rl (λb=>if b then l1 else l0) _ hhd f2 (λb=>by cases b;exact f0;exact f1) ⟨⟨dx,a6⟩,⟨[],0,by rw[aa n0.symm,aa q2,aa q1,aa q0,aa n0.symm,a6],.nil,nodup_nil,zero_le _⟩,by rw[aa m2.symm,a6];rfl,λb=>⟨[],?_,.nil⟩,r1,λb=>by cases b;exact r2;exact r3⟩ λc o n e=>?_
     . cases b
       . show upd _ x _ l0=_;rw[aa m0.symm,aa r2,aa r1,a6]
       . show upd _ x _ l1=_;rw[aa m1.symm,aa r3,a6]
     . have c0:c≠x:=λz=>n (mem_singleton.mpr z)
       rw[aa c0,aa (ae e f2),aa (ae e f1),aa (ae e f0),aa c0,aa (e0 c o e)];exact e
theorem kj (G:Gs K mg a d):FnOk P w K mg base CX0 1 a.du d.du ["self","side","cell","worth"] (vn w a.aJ):=by
 refine G.qM.ok oS (λvs H Q E h=>?_) (λcdv A outer s H vs Q E hr h=>?_)
 . obtain⟨x,hd,rl,l,M,r,b,cv,wv,k,rfl,_⟩:=h;rfl
 . obtain⟨x,hd,rl,l,M,r,b,cv,wv,k,rfl,S,hlen,hk,q⟩:=h;refine⟨_,(@ap _ _ _ (@b6 _ _ _ _ (@lO _ _ _ _ _ _ _ _ _ _ _ _ PySem.F.plainAttrs_list PySem.F.slot_list_append PySem.F.type_list_append cZ (@ax _ _ _ _ _ _ _ bo (ak (pv 0) rfl) (pv 1) (λ_ _=>rfl)) ((@aO _ _ _ _ _ ((pv 2)∣((pv 3)∣a9)))∣a9) (by rfl) (by rfl) (by rfl) (by rfl) (by rfl)) (by rfl))),?_⟩;obtain⟨dx,hx⟩:=S.ob;obtain⟨ts,hl,hp⟩:=S.rw b;have hn:=aX hp;refine⟨_,rfl,x,a.aJ,dx,_,_,rfl,hx,G.aA,G.c7,jq,_,rfl,rl,_,_,_,rfl,rfl,SqL.of S.ro,pT b,.inl ⟨rfl,_,SqL.of hl⟩,_,rfl,_,rfl,l2,λt ht=>⟨l b,ts,.ref t,rfl,rfl,by rw[aa (ae hl ht)];exact hl,Nat.lt_of_lt_of_le (by omega) GS,?_⟩⟩;have tne:∀ c o,H c=some o->c≠t:=λc o e=>ae e ht
   have tl:t≠l b:=(tne _ _ hl).symm;have kp:Kp [l b] H (upd (upd H t (.tup [cv,wv])) (l b) (.lst (ts++[.ref t]))):=λc o n e=>by
    rw[aa λz=>n (mem_singleton.mpr z),aa (tne c o e)];exact e
   have kt:∀ c vs,H c=some (.tup vs)->upd (upd H t (.tup [cv,wv])) (l b) (.lst (ts++[.ref t])) c=some (.tup vs):=λc vs e=>kp c _ (λz=>by
    rw[mem_singleton.mp z,hl]at e;cases e) e
   refine q _ ⟨⟨dx,kp _ _ (λz=>by rw[mem_singleton.mp z,hl]at hx;cases hx) hx⟩,S.me.keepS (λo e=>kp _ _ (λz=>by
    obtain⟨es,e'⟩:=S.me.there;rw[mem_singleton.mp z,hl]at e';cases e') e) kt,kp _ _ (λz=>S.nr b (mem_singleton.mp z).symm) S.ro,λc=>?_,S.nl,S.nr⟩ kp
   by_cases z:c=b
   . subst z;rw[aD];exact⟨_,a6,Paired.snoc (Paired.mapP hp λ_ _ q=>q.keep kt) ⟨t,cv,rfl,by rw[aa tl];exact a6,hk.keep kt⟩⟩
   . rw[bF z];exact(S.rw c).keep (λo e=>kp _ _ (λy=>by
      have y':=mem_singleton.mp y;cases c<;>cases b
      . exact z rfl
      . exact S.nl y'
      . exact S.nl y'.symm
      . exact z rfl) e) kt
theorem vH (G:Gs K mg a d):FnOk P w K mg base CX0 1 a.dj d.dj ["self","side"] (vV w a.aJ):=by
 refine G.qp.ok jv (λvs H Q E h=>?_) (λcdv A outer s H vs Q E hr h=>?_)
 . obtain⟨x,hd,rl,l,M,r,b,k,v,rest,rfl,_⟩:=h;rfl
 . obtain⟨x,hd,rl,l,M,r,b,k,v,rest,rfl,S,hrow,hlen,q⟩:=h;refine⟨_,((aL (fT (rS (@ax _ _ _ _ _ _ _ bo (ak (pv 0) rfl) (pv 1) (λ_ _=>rfl)) (λ_=>rfl))) (@ap _ _ _ Bw) aj)∪((@aK _ _ 2 _ _ _ _ jv.nd rfl (Or.inl rfl) (@lO _ _ _ _ _ _ _ _ _ _ _ _ PySem.F.plainAttrs_list PySem.F.slot_list_pop PySem.F.type_list_pop BF (@ax _ _ _ _ _ _ _ bo (ak (pv 0) rfl) (pv 1) (λ_ _=>rfl)) (ac∣a9) (by rfl) (by rfl) (by rfl) (by rfl) (by rfl)) (by rfl) (by exact .inl rfl))∪(@ap _ _ _ (CC hr.units (ak (pv 0) rfl) (@ax _ _ _ _ _ _ _ ar (pv 2) ac (λ_ _=>rfl)) (@ax _ _ _ _ _ _ _ ar (pv 2) ac (λ_ _=>rfl)) rfl)))),?_⟩;obtain⟨dx,hx⟩:=S.ob;obtain⟨ts0,hl,hp0⟩:=S.rw b;rw[hrow]at hp0;cases hp0 with
  |@cons _ tv _ ts hw hp =>
    obtain⟨t,cv,rfl,ht,hk⟩:=hw;refine⟨_,rfl,x,a.aJ,dx,_,_,rfl,hx,G.aA,G.c7,jq,_,rfl,rl,_,_,_,rfl,rfl,SqL.of S.ro,pT b,true,.inl ⟨_,SqL.of hl,rfl⟩,cU ?_⟩;refine⟨_,rfl,x,a.aJ,dx,_,_,rfl,hx,G.aA,G.c7,jq,_,rfl,rl,_,_,_,rfl,rfl,SqL.of S.ro,pT b,.inl ⟨rfl,_,SqL.of hl⟩,l b,_,0,0,.ref t,rfl,rfl,hl,by decide,by decide,by simp[seqIndex?],rfl,?_⟩;have tl:t≠l b:=ii ht hl (by intro z;cases z);have kp:Kp [l b] H (upd H (l b) (.lst (List.eraseIdx (.ref t :: ts) 0))):=λc o n e=>by
     rw[aa λz=>n (mem_singleton.mpr z)];exact e
    have kt:∀ c vs,H c=some (.tup vs)->upd H (l b) (.lst (List.eraseIdx (.ref t :: ts) 0)) c=some (.tup vs):=λc vs e=>kp c _ (λz=>by
     rw[mem_singleton.mp z,hl]at e;cases e) e
    have hx':=kp x _ (λz=>by rw[mem_singleton.mp z,hl]at hx;cases hx) hx;have me':=S.me.keepS (λo e=>kp _ _ (λz=>by
     obtain⟨es,e'⟩:=S.me.there;rw[mem_singleton.mp z,hl]at e';cases e') e) kt
    have ro':=kp rl _ (λz=>S.nr b (mem_singleton.mp z).symm) S.ro;have ht':=kt t _ ht;have rw':∀ c,yE (upd H (l b) (.lst (List.eraseIdx (.ref t :: ts) 0))) (l c) (ba r b rest c):=λc=>by
     by_cases z:c=b
     . subst z;rw[aD];exact⟨ts,a6,Paired.mapP hp λ_ _ q=>q.keep kt⟩
     . rw[bF z];exact(S.rw c).keep (λo e=>kp _ _ (λy=>by
        have y':=mem_singleton.mp y;cases c<;>cases b
        . exact z rfl
        . exact S.nl y'
        . exact S.nl y'.symm
        . exact z rfl) e) kt
    have hk':=hk.keep kt;refine⟨_,rfl,t,_,_,_,rfl,rfl,SqT.of ht',rfl,_,rfl,x,a.aJ,dx,_,_,rfl,hx',G.aA,G.dM,mO,_,rfl,t,_,_,_,rfl,rfl,SqT.of ht',rfl,hd,M,k,rfl,me',Nat.lt_of_lt_of_le hlen GS,hk',λH4 g1 g2=>?_⟩;generalize upd H (l b) (.lst (List.eraseIdx (.ref t :: ts) 0))=H1 at kp kt hx' me' ro' ht' rw' hk' g1 |-;have hdn:∀ c o,H1 c=some o->(∀ ee:List DictEntry × Nat,o≠ki hd ee.1 ee.2)->c≠hd:=λc o e n z=>by
     obtain⟨es,e'⟩:=me'.there;rw[z,e']at e;exact n es (Option.some.inj e).symm
    have k4:∀ c o,c≠hd->H1 c=some o->H4 c=some o:=λc o n e=>by rw[g1 c n];exact e
    have kt4:∀ c vs,H1 c=some (.tup vs)->H4 c=some (.tup vs):=λc vs e=>k4 c _ (hdn c _ e λes z=>by cases z) e
    refine q H4 ⟨⟨dx,k4 _ _ (hdn _ _ hx' λes z=>by cases z) hx'⟩,g2,k4 _ _ (hdn _ _ ro' λes z=>by cases z) ro',λc=>(rw' c).keep (λo e=>k4 _ _ (by
     obtain⟨ts',e',_⟩:=rw' c;exact hdn _ _ e' λes z=>by cases z) e) kt4,S.nl,S.nr⟩ λc o n e=>?_
    exact k4 c o (λz=>n (by rw[z];simp)) (kp c o (λz=>n (by rw[mem_singleton.mp z];simp)) e)
theorem oq (G:Gs K mg a d):FnOk P w K mg base CX0 1 a.cz d.cz ["self","cell"] (oA w a.aJ):=by
 refine G.pi.ok nM (λvs H Q E h=>?_) (λcdv A outer s H vs Q E hr h=>?_)
 . obtain⟨x,hd,rl,l,M,r,cv,k,rfl,_⟩:=h;rfl
 . obtain⟨x,hd,rl,l,M,r,cv,k,rfl,S,hk,q⟩:=h;refine⟨_,((AD hr.units (ak (pv 0) rfl) (pv 1) ac ⟨rfl,rfl,rfl,rfl⟩)⁻¹),?_⟩;obtain⟨dx,hx⟩:=S.ob;exact⟨_,rfl,x,a.aJ,dx,_,_,rfl,hx,G.aA,G.dM,mO,hd,rfl,⟨_,S.me⟩,_,rfl,M,k,S.me,hk,q⟩
theorem qr (G:Gs K mg a d):FnOk P w K mg base CX0 1 a.d8 d.d8 ["self","side"] (vU w a.aJ):=by
 refine G.qZ.ok pG (λvs H Q E h=>?_) (λcdv A outer s H vs Q E hr h=>?_)
 . obtain⟨x,hd,rl,l,M,r,b,rfl,_⟩:=h;rfl
 . obtain⟨x,hd,rl,l,M,r,b,rfl,S,q⟩:=h;refine⟨_,((br je (by rfl) G.vA rq ((@ax _ _ _ _ _ _ _ bo (ak (pv 0) rfl) (pv 1) (λ_ _=>rfl))∣a9))⁻¹),?_⟩;obtain⟨dx,hx⟩:=S.ob;obtain⟨ts,hl,hp⟩:=S.rw b;exact⟨_,rfl,x,a.aJ,dx,_,_,rfl,hx,G.aA,G.c7,jq,_,rfl,rl,_,_,_,rfl,rfl,SqL.of S.ro,pT b,l b,ts,rfl,.inl (SqL.of hl),λp hp'=>q p ts hp' hp⟩
theorem vS (G:Gs K mg a d):FnOk P w K mg base CX0 2 a.di d.di ["self","side"] (vm w a.aJ):=by
 have c_Store_drain:FnOk P w K mg base CX0 1 _ _ _ _:=vH G;refine G.qz.ok p9 (λvs H Q E h=>?_) (λcdv A outer s H vs Q E hr h=>?_)
 . obtain⟨x,hd,rl,l,M,r,b,rfl,_⟩:=h;rfl
 . obtain⟨x,hd,rl,l,M,r,b,rfl,S,hlen,q⟩:=h;refine⟨_,(@ap _ _ _ (vJ PassesOwn.never (rS (@ax _ _ _ _ _ _ _ bo (ak (pv 0) rfl) (pv 1) (λ_ _=>rfl)) (λ_=>rfl)) (@ap _ _ _ (@b6 _ _ _ _ (aB (pv 0) G.aA G.jx c_Store_drain (hr.mono (by decide)) G.kZ .nil ay ((pv 1)∣a9)) (by rfl))))),?_⟩;refine⟨λm σ H'=>σ=[some (.ref x),some (.int (sdI b))]/\∃ (M' es:List (PyData × V)),Sto w a.aJ H' x hd rl l M' (ba r b es)/\m=es.length/\kO M' es=kO M (r b)/\M'.length+es.length < 100000/\Kp [l b,hd] H H',
    ⟨_,rfl,M,r b,by rw[show ba r b (r b)=r from funext λc=>by unfold ba;split;(rename_i z;rw[z]);rfl];exact S,rfl,rfl,hlen,Kp.refl _ _⟩,?_⟩
   rintro m σ H' ⟨rfl,M',es,S',rfl,hd',hl',kp⟩;obtain⟨dx,hx⟩:=S'.ob;obtain⟨ts,hl,hp⟩:=S'.rw b;rw[aD]at hp;have hn:=aX hp;refine⟨_,rfl,x,a.aJ,dx,_,_,rfl,hx,G.aA,G.c7,jq,_,rfl,rl,_,_,_,rfl,rfl,SqL.of S'.ro,pT b,!ts.isEmpty,.inl ⟨_,SqL.of hl,rfl⟩,?_⟩;refine wI (λht=>?_) (λht=>?_)
   . cases es with
    |nil =>
      cases hp;cases ht
    |cons p es =>
      refine⟨_,λσ' H2 z=>z,?_⟩;refine⟨_,rfl,x,dx,_,rfl,hx,bW (by decide +kernel) (by decide +kernel),_,rfl,x,hd,rl,l,M',_,b,p.1,p.2,es,rfl,S',aD,by rw[length_cons]at hl';omega,λH2 S2 kp2=>?_⟩;refine⟨es.length,by rw[length_cons];omega,rfl,ub M' p.1 p.2,es,?_,rfl,hd',by have:=Br M' p.1 p.2;rw[length_cons]at hl';omega,kp.trans kp2⟩;rw[show ba (ba r b (p :: es)) b es=ba r b es from funext λc=>by unfold ba;split<;>rfl]at S2;exact S2
   . cases es with
    |nil =>
      have e:kO M' []=M':=rfl;rw[e]at hd';rw[hd']at S';exact q H' S' kp
    |cons p es =>
      cases hp with
     |cons _ _=>exact absurd rfl ht
theorem l7 (G:Gs K mg a d):FnOk P w K mg base CX0 2 a.eJ d.eJ ["self","side","cell"] (uL w a.aJ):=by
 have c_Store_memory:FnOk P w K mg base CX0 1 _ _ _ _:=oq G;refine G.tE.ok kK (λvs H Q E h=>?_) (λcdv A outer s H vs Q E hr h=>?_)
 . obtain⟨x,hd,rl,l,M,r,b,cv,k,rfl,_⟩:=h;rfl
 . obtain⟨x,hd,rl,l,M,r,b,cv,k,rfl,S,hk,q⟩:=h;refine⟨_,((iJ PassesOwn.never rfl (Fh (by rfl) G.wx ((@ax _ _ _ _ _ _ _ bo (ak (pv 0) rfl) (pv 1) (λ_ _=>rfl))∣a9)) (aR (i:=3) kK.nd rfl (Or.inl rfl)) (@ap _ _ _ (aL (ao (sf hr.units) (@ax _ _ _ _ _ _ _ ar (pv 3) ac (λ_ _=>rfl)) (pv 2) (av _)) ((@ax _ _ _ _ _ _ _ ar (pv 3) ac (λ_ _=>rfl))⁻¹) aj)))∪((aB (pv 0) G.aA G.fG c_Store_memory (hr.mono (by decide)) G.gs .nil ay ((pv 2)∣a9))⁻¹)),?_⟩;obtain⟨dx,hx⟩:=S.ob;obtain⟨ts,hl,hp⟩:=S.rw b;have hn:=aX hp;refine⟨_,rfl,x,a.aJ,dx,_,_,rfl,hx,G.aA,G.c7,jq,_,rfl,rl,_,_,_,rfl,rfl,SqL.of S.ro,pT b,l b,ts,rfl,SqL.of hl,?_⟩;refine Eb (K:=K) (a:=l b) (xs:=ts) (λi σ H'=>(∃ v,σ=[some (.ref x),some (.int (sdI b)),some cv,v])/\H'=H/\∀ p∈((r b).reverse.take i),PyData.eqv p.1 k=false)
    ⟨⟨_,rfl⟩,rfl,λp hp=>by cases hp⟩ (λ_ _ _ _ z=>by rw[z.2.1];exact SqL.of hl) ?_ ?_
   . rintro i y σ H' hi hy ⟨⟨v,rfl⟩,rfl,hno⟩;obtain⟨p,e1,t,tc,rfl,ht,hc⟩:=MX.f2_get hp _ _ hy;have hrev:(r b).reverse[i]?=some p:=by
      rw[List.getElem?_reverse (by omega)];rw[hn];exact e1
     refine⟨_,rfl,t,_,_,_,rfl,rfl,SqT.of ht,rfl,_,rfl,p.1,k,hc.2.2.1,hk.2.2.1,mF.key hc.1 hc.2.1,mF.key hk.1 hk.2.1,_,rfl,?_⟩;simp only[false_eq_true,if_false];refine wI (λhe=>?_) (λhe=>?_)
     . refine⟨_,rfl,t,_,_,_,rfl,rfl,SqT.of ht,rfl,?_⟩;have e:cC M (r b) k=p.2:=by
        unfold cC;have hfind:(r b).reverse.find? (λp=>PyData.eqv p.1 k)=some p:=by
         rw[List.find?_eq_some_iff_getElem];refine⟨he,i,(List.getElem?_eq_some_iff.mp hrev).1,(List.getElem?_eq_some_iff.mp hrev).2,λj hj=>?_⟩;rw[hno _ (mem_of_getElem? (by rw[List.getElem?_take,if_pos hj];exact getElem?_eq_getElem _))];rfl
        rw[hfind]
       rw[e]at q;exact q
     . refine⟨⟨_,rfl⟩,rfl,λp' hp'=>?_⟩;rw[take_succ,hrev]at hp';rcases mem_append.mp hp' with z|z
       . exact hno p' z
       . rw[show p'=p by simpa using z];cases w':PyData.eqv p.1 k with
        |false=>rfl
        |true=>exact absurd w' he
   . rintro σ H' ⟨⟨v,rfl⟩,rfl,hno⟩;refine⟨_,rfl,x,dx,_,rfl,hx,bW (by decide +kernel) (by decide +kernel),_,rfl,x,hd,rl,l,M,r,cv,k,rfl,S,hk,?_⟩;have e:cC M (r b) k=(cH M k).getD (.int 0):=by
      unfold cC;have hfind:(r b).reverse.find? (λp=>PyData.eqv p.1 k)=none:=by
       rw[find?_eq_none];intro p hp';rw[hno p (by rw[take_of_length_le (by rw[List.length_reverse];omega)];exact hp')];decide
      rw[hfind]
     rw[e]at q;exact q
def WV (H:Hp) (v:V):Prop:=∃ d,MX.kd d=true/\d.depth <= 8/\DV H d v
theorem WV.zero {H:Hp}{v:V}{d:PyData}(h:MX.kd d=true) (hv:DV H d v):(PyData.eqv d (.int 0)=true ↔ v=.int 0):=by
 rw[MX.eqv_iff d _ h rfl];constructor
 . rintro rfl;exact hv
 . rintro rfl;cases d with
  |int i =>
    have:V.int 0=V.int i:=hv;rw[fh this]
  |str t=>cases (show V.int 0=V.str t from hv)
  |tuple ds=>obtain⟨_,_,e,_⟩:=hv;cases e
  |none=>cases h
  |bool=>cases h
  |list=>cases h
  |dict=>cases h
def nz (p:PyData × V):Bool:=decide (p.2≠.int 0)
def BA (w:World) (C:Addr):Sp:=λvs H Q _=>∃ (x hd rl:Addr) (l:Bool->Addr) (M:List (PyData × V)) (r:Bool->List (PyData × V)),vs=[.ref x]/\Sto w C H x hd rl l M r/\FJ M/\M.length < 100000/\(∀ p∈M,WV H p.2) /\
 ∀ (p:Addr) (ts:List V),H p=none->Paired (λ(kv:PyData × V) t=>mL H kv.1 t) (M.filter nz) ts->Q (.ref p) (upd H p (.lst ts))
theorem Ac (G:Gs K mg a d):FnOk P w K mg base CX0 1 a.dn d.dn ["self"] (BA w a.aJ):=by
 refine G.rK.ok pE (λvs H Q E h=>?_) (λcdv A outer s H vs Q E hr h=>?_)
 . obtain⟨x,hd,rl,l,M,r,rfl,_⟩:=h;rfl
 . obtain⟨x,hd,rl,l,M,r,rfl,S,top,hlen,hW,q⟩:=h;refine⟨_,((by exact o6 (tc:=yM (tOp (FK true) (Co w (G1 K (pc 1) "held") (pc 0)) (tC (.int 0)))) (te:=pc 0) (caps:=["self"]) (js:=[0]) rfl (lX rfl rfl (by decide +kernel) (by decide +kernel) rfl ⟨rfl,trivial⟩ rfl rfl) (by decide +kernel) ⟨⟨⟨_,rfl⟩,rfl,.inl rfl,.inl rfl⟩,trivial⟩ (Dr (ak (pv 0) rfl)) (λC s₃ H₃ pins ex E'=>by exact rc (ao (u9 hr.units) (by exact AM hr.units (ak (pv 1) rfl) (pv 0) (λ_ _=>rfl)) ac (av _))) (λC s₃ H₃ pins ex E'=>by exact(pv 0)))⁻¹),?_⟩;obtain⟨dx,hx⟩:=S.ob;obtain⟨es,ep,h1,h2,h3,h4⟩:=id S.me;refine⟨_,rfl,x,a.aJ,dx,_,_,rfl,hx,G.aA,G.dM,mO,hd,es,ep,M,rfl,h1,h2,top,λD hD=>?_⟩;have e0:∀ ys,bG H (upd H D (.lst ys)):=λys=>ag hD
   refine⟨λi m ys H2=>i <= M.length/\m=M.length - i/\H2=upd H D (.lst ys)/\Paired (λ(kv:PyData × V) t=>mL H kv.1 t) ((M.take i).filter nz) ys,⟨_,zero_le _,rfl,rfl,.nil⟩,?_⟩;rintro i m ys H2 ⟨hi,rfl,rfl,hp⟩;have hyl:ys.length <= M.length:=by
    rw[<-aX hp];refine Nat.le_trans (length_filter_le _ _) ?_;rw[length_take];omega
   refine⟨a6,Nat.lt_of_lt_of_le (lt_of_le_of_lt hyl hlen) GS,?_⟩;by_cases z:i=M.length
   . refine .inl ⟨⟨e0 ys _ _ h1,Paired.keys h2,by omega⟩,?_⟩;rw[z,take_length]at hp;exact q D ys hD hp
   . have hlt:i < M.length:=by omega
     refine .inr ⟨⟨e0 ys _ _ h1,Paired.mapP h2 λ_ _ q=>q.keep λb vs e=>e0 ys _ _ e,hlt⟩,?_⟩;rintro y H3 ⟨rfl,k,v,hkv,hk⟩;obtain⟨dv,w1,w2,w3⟩:=hW _ (mem_of_getElem? hkv);have hl:cH M k=some v:=by
      have kk:=KK.of h2;obtain⟨v',g1,g2⟩:=mU (kk _ (mem_of_getElem? hkv)) kk h3 (j:=i) (by rw[getElem?_map,hkv];rfl);rw[hkv]at g1;cases g1;exact g2
     have S':=S.same (e0 ys);have hkH:mL H k y:=by
      obtain⟨e,he,k1,k2,k3,⟨x',rx,dx'⟩,k5⟩:=MX.f2_get' h2 i _ hkv;obtain⟨c1,c2,c3,c4⟩:=hk;refine⟨c1,c2,?_,c4⟩;exact ym hD (by
       intro xs z;cases z) c1 c3
     refine⟨_,rfl,x,a.aJ,dx,_,_,rfl,e0 ys _ _ hx,G.aA,G.dM,mO,_,rfl,hd,M,k,v,rfl,S'.me,hk,hl,dv,.int 0,DV.keep (λb vs e=>e0 ys _ _ e) _ _ w1 w3,rfl,mF.key w1 w2,mF.int 0,_,rfl,?_⟩;have zz:=WV.zero w1 w3;have et:M.take (i+1)=M.take i++[(k,v)]:=by rw[take_succ,hkv];rfl
     simp only[if_true];refine wI (λhne=>?_) (λhne=>?_)
     . have hv:v≠.int 0:=λy=>by rw[zz.mpr y]at hne;cases hne
       refine⟨_,rfl,a6,M.length - (i+1),by omega,hlt,rfl,by rw[cP],?_⟩;rw[et,filter_append];have ef:[(k,v)].filter nz=[(k,v)]:=by
        rw[filter_cons,if_pos (show nz (k,v)=true from decide_eq_true hv)];rfl
       rw[ef];exact Paired.snoc hp hkH
     . have hv:v=.int 0:=zz.mp (by
        cases y:PyData.eqv dv (.int 0) with
       |true=>rfl
       |false=>exact absurd (by rw[y];rfl) hne)
       refine⟨M.length - (i+1),by omega,hlt,rfl,trivial,?_⟩;rw[et,filter_append];have ef:[(k,v)].filter nz=[]:=by
        rw[filter_cons,if_neg (show ¬ nz (k,v)=true from λy=>(of_decide_eq_true y) hv)];rfl
       rw[ef,append_nil];exact hp
def Ed:Sp:=λvs H Q _=>∃ c s r:Int,vs=[.int c,.int s,.int r]/\0 < s/\s <= 8/\0 < s * r/\Q (.int ((c+1) % (s * r))) H
def BN:Sp:=λvs H Q _=>∃ c s:Int,vs=[.int c,.int s]/\0 < s/\Q (.int (c % s)) H
def AA:Sp:=λvs H Q _=>∃ o b s r:Int,vs=[.int o,.int b,.int s,.int r]/\0 < s/\s <= 8/\0 < s * r/\Q (.int ((o - b) % (s * r))) H
theorem CI (G:Gs K mg a d):FnOk P w K mg base CX0 1 a.cy d.cy ["counter","size","rounds"] Ed:=by
 refine G.jF.ok og (λvs H Q E h=>?_) (λcdv A outer st H vs Q E hr h=>?_)
 . obtain⟨c,s,r,rfl,_⟩:=h;rfl
 . obtain⟨c,s,r,rfl,h0,h1,h2,k⟩:=h;refine⟨_,((@aN _ _ _ _ _ _ _ _ bS (@aN _ _ _ _ _ _ _ _ o8 (pv 0) ac) (@aN _ _ _ _ _ _ _ _ qm (pv 1) (pv 2)))⁻¹),?_⟩;exact⟨_,rfl,_,_,rfl,rfl,_,rfl,_,rfl,_,_,rfl,rfl,lv (by omega) (by omega),_,_,rfl,rfl,h2,k⟩
theorem AH (G:Gs K mg a d):FnOk P w K mg base CX0 1 a.gZ d.gZ ["counter","size"] BN:=by
 refine G.pM.ok vb (λvs H Q E h=>?_) (λcdv A outer st H vs Q E hr h=>?_)
 . obtain⟨c,s,rfl,_⟩:=h;rfl
 . obtain⟨c,s,rfl,h0,k⟩:=h;refine⟨_,((@aN _ _ _ _ _ _ _ _ bS (pv 0) (pv 1))⁻¹),?_⟩;exact⟨_,rfl,_,rfl,_,_,rfl,rfl,h0,k⟩
theorem BO (G:Gs K mg a d):FnOk P w K mg base CX0 1 a.gY d.gY ["one","other","size","rounds"] AA:=by
 refine G.qf.ok uo (λvs H Q E h=>?_) (λcdv A outer st H vs Q E hr h=>?_)
 . obtain⟨o,b,s,r,rfl,_⟩:=h;rfl
 . obtain⟨o,b,s,r,rfl,h0,h1,h2,k⟩:=h;refine⟨_,((@aN _ _ _ _ _ _ _ _ bS (@aN _ _ _ _ _ _ _ _ kM (pv 0) (pv 1)) (@aN _ _ _ _ _ _ _ _ qm (pv 2) (pv 3)))⁻¹),?_⟩;exact⟨_,rfl,_,rfl,_,_,rfl,rfl,_,rfl,_,rfl,_,_,rfl,rfl,lv (by omega) (by omega),_,_,rfl,rfl,h2,k⟩
def Ak:Sp:=λvs H Q _=>∃ (R:Int) (ft:Addr) (fs:List Str),vs=[.int R,.ref ft]/\H ft=some (.tup (fs.map V.str))/\Q (.int (if fs.contains "round" then 1 else R)) H
def Bu (K:PySem.W.Frag) (CR:Addr):Sp:=λvs H Q _=>∃ (q dx st wa ft:Addr) (b:Bool) (w0 w1 w2:Str) (s R:Int) (fs:List Str),vs=[.ref q,.ref st,.int (sdI b),.ref wa,.int s,.int R,.ref ft]/\H q=some (.ins CR dx [])/\(∀ H,SqT K H wa [.str w0,.str w1,.str w2])/\H ft=some (.tup (fs.map V.str)) /\
 ∀ H',Rn CR H' q st b w0 w1 w2 ⟨s,if fs.contains "round" then 1 else R,fs.contains "counter"⟩->Kp [q] H H'->Q .non H'
def yu (w:World) (CR CS:Addr):Sp:=λvs H Q _=>∃ (q:Addr) (z:SA) (b:Bool) (w0 w1 w2:Str) (p:RP) (M:List (PyData × V)) (r:Bool->List (PyData × V)) (A T:Int),vs=[.ref q]/\Rn CR H q z.x b w0 w1 w2 p/\z.At w CS H M r/\p.Ok/\PyData.strOk w1=true/\PyData.strOk w2=true /\
 cC M (r b) (.str w1)=.int A/\cC M (r b) (.str w2)=.int T/\Q (.int ((A - T) % (p.s * p.R))) H
def CJ (w:World) (CR CS:Addr):Sp:=λvs H Q _=>∃ (q:Addr) (z:SA) (b:Bool) (w0 w1 w2:Str) (p:RP) (M:List (PyData × V)) (r:Bool->List (PyData × V)) (A T:Int),vs=[.ref q]/\Rn CR H q z.x b w0 w1 w2 p/\z.At w CS H M r/\p.Ok/\PyData.strOk w1=true/\PyData.strOk w2=true /\
 cC M (r b) (.str w1)=.int A/\cC M (r b) (.str w2)=.int T/\Q (.bl (decide ((A - T) % (p.s * p.R)=p.s))) H
def xc (CR:Addr):Sp:=λvs H Q _=>∃ (q st:Addr) (b:Bool) (w0 w1 w2:Str) (p:RP) (A:Int),vs=[.ref q,.int A]/\Rn CR H q st b w0 w1 w2 p/\p.Ok/\∀ t,H t=none->Q (.ref t) (upd H t (.tup [.str w0,.int (A % p.s)]))
def xg (w:World) (CR CS:Addr):Sp:=λvs H Q _=>∃ (q:Addr) (z:SA) (b:Bool) (w0 w1 w2:Str) (p:RP) (M:List (PyData × V)) (r:Bool->List (PyData × V)) (A:Int) (cv:V) (k:PyData),vs=[.ref q,cv,.int A]/\Rn CR H q z.x b w0 w1 w2 p/\z.At w CS H M r/\p.Ok/\(r b).length < 100000/\mL H k cv /\
 ∀ H',z.At w CS H' M (ba r b (r b++[(k,.int ((A+1) % (p.s * p.R)))]))->Kp [z.l b] H H'->Q .non H'
def Fe (w:World) (CR CS:Addr):Sp:=λvs H Q _=>∃ (q:Addr) (z:SA) (b:Bool) (w0 w1 w2:Str) (p:RP) (M:List (PyData × V)) (r:Bool->List (PyData × V)) (A:Int) (nm wv:V),vs=[.ref q,nm,wv]/\Rn CR H q z.x b w0 w1 w2 p/\z.At w CS H M r/\p.Ok/\PyData.strOk w0=true/\PyData.strOk w1=true/\(r b).length < 99999 /\
 cC M (r b) (.str w1)=.int A/\∀ t H',H t=none->H' t=some (.tup [nm,wv])->z.At w CS H' M (ba r b (r b++nK p w0 w1 A (.ref t)))->Kp [z.l b] H H'->Q .non H'
def B8 (w:World) (CR CS:Addr):Sp:=λvs H Q _=>∃ (q:Addr) (z:SA) (b:Bool) (w0 w1 w2:Str) (p:RP) (M:List (PyData × V)) (r:Bool->List (PyData × V)) (A T:Int),vs=[.ref q]/\Rn CR H q z.x b w0 w1 w2 p/\z.At w CS H M r/\p.Ok/\PyData.strOk w0=true/\PyData.strOk w1=true/\PyData.strOk w2=true/\(r b).length < 100000 /\
 cC M (r b) (.str w1)=.int A/\cC M (r b) (.str w2)=.int T/\(if (A - T) % (p.s * p.R)=0 then Q .non H else
  (∃ c vs,cC M (r b) (.tuple [.str w0,.int (T % p.s)])=.ref c/\H c=some (.tup vs)/\∀ H',z.At w CS H' M (ba r b (r b++[(.str w2,.int ((T+1) % (p.s * p.R)))]))->Kp [z.l b] H H'->Q (.ref c) H') \/
  ∃ i,cC M (r b) (.tuple [.str w0,.int (T % p.s)])=.int i/\∀ t H',H t=none->H' t=some (.tup [.non,.non])->z.At w CS H' M (ba r b (r b++[(.str w2,.int ((T+1) % (p.s * p.R)))]))->Kp [z.l b] H H'->Q (.ref t) H')
theorem vL (G:Gs K mg a d):FnOk P w K mg base CX0 1 a.dD d.dD ["rounds","faults"] Ak:=by
 refine G.ir.ok oY (λvs H Q E h=>?_) (λcdv A outer s H vs Q E hr h=>?_)
 . obtain⟨R,ft,fs,rfl,_⟩:=h;rfl
 . obtain⟨R,ft,fs,rfl,hf,k⟩:=h;refine⟨_,((mS (ao eR ai (pv 1) (by with_unfolding_all rfl)) ac (pv 0))⁻¹),?_⟩;refine⟨_,rfl,ft,_,rfl,.inr (SqT.of hf),rfl,gH fs,_,rfl,?_⟩;simp only[false_eq_true,if_false];rw[qy];by_cases hb:fs.contains "round"=true
   . rw[if_pos hb]at k |-;exact k
   . rw[if_neg hb]at k |-;exact⟨_,rfl,k⟩
theorem wl (G:Gs K mg a d):FnOk P w K mg base CX0 2 a.eE d.eE ["self","store","side","words","size","rounds","faults"] (Bu K a.cr):=by
 have c_rounds_with:FnOk P w K mg base CX0 1 _ _ _ _:=vL G;refine G.tO.ok qD (λvs H Q E h=>?_) (λcdv A outer s H vs Q E hr h=>?_)
 . obtain⟨q,dx,st,wa,ft,b,w0,w1,w2,s,R,fs,rfl,_⟩:=h;rfl
 . obtain⟨q,dx,st,wa,ft,b,w0,w1,w2,s,R,fs,rfl,hx,hw,hf,k⟩:=h;refine⟨_,((bL (pv 0) (pv 1) rfl)∪((bL (pv 0) (pv 2) rfl)∪((bL (pv 0) (@ax _ _ _ _ _ _ _ ar (pv 3) ac (λ_ _=>rfl)) rfl)∪((bL (pv 0) (@ax _ _ _ _ _ _ _ ar (pv 3) ac (λ_ _=>rfl)) rfl)∪((bL (pv 0) (@ax _ _ _ _ _ _ _ ar (pv 3) ac (λ_ _=>rfl)) rfl)∪((bL (pv 0) (pv 4) rfl)∪((bL (pv 0) (aS c_rounds_with (hr.mono (by decide)) (by rfl) G.kq G.ir.kp G.kC .nil ay ((pv 5)∣((pv 6)∣a9))) rfl)∪(@ap _ _ _ (bL (pv 0) (ci eR ai (pv 6) (by with_unfolding_all rfl)) rfl))))))))),?_⟩;have nf:ft≠q:=ii hf hx (by intro z;cases z);have ft':∀ o,upd H q o ft=some (.tup (fs.map V.str)):=λo=>by rw[aa nf];exact hf
   refine⟨_,rfl,_,rfl,q,a.cr,dx,[],rfl,hx,G.au,G.bA,by decide,?_⟩;refine⟨_,rfl,_,rfl,q,a.cr,dx,_,rfl,a6,G.au,G.bJ,by show 1 < 1000;decide,?_⟩;rw[cP];refine⟨_,rfl,wa,_,_,_,rfl,rfl,hw _,rfl,_,rfl,q,a.cr,dx,_,rfl,a6,G.au,G.m7,by show 2 < 1000;decide,?_⟩;rw[cP];refine⟨_,rfl,wa,_,_,_,rfl,rfl,hw _,rfl,_,rfl,q,a.cr,dx,_,rfl,a6,G.au,G.eN,by show 3 < 1000;decide,?_⟩;rw[cP];refine⟨_,rfl,wa,_,_,_,rfl,rfl,hw _,rfl,_,rfl,q,a.cr,dx,_,rfl,a6,G.au,G.dL,by show 4 < 1000;decide,?_⟩;rw[cP];refine⟨_,rfl,_,rfl,q,a.cr,dx,_,rfl,a6,G.au,G.eO,by show 5 < 1000;decide,?_⟩;rw[cP];refine⟨_,rfl,_,rfl,R,ft,fs,rfl,ft' _,_,rfl,q,a.cr,dx,_,rfl,a6,G.au,G.gB,by show 6 < 1000;decide,?_⟩;rw[cP];refine⟨_,rfl,ft,_,rfl,.inr (SqT.of (ft' _)),rfl,gH fs,_,rfl,q,a.cr,dx,_,rfl,a6,G.au,G.bK,by show 7 < 1000;decide,?_⟩;rw[cP];simp only[false_eq_true,if_false];rw[qy];refine k _ ⟨dx,a6⟩ λc o nc ec=>?_
   rw[aa λz=>nc (mem_singleton.mpr z)];exact ec
theorem kX (G:Gs K mg a d):FnOk P w K mg base CX0 3 a.dc d.dc ["self"] (yu w a.cr a.aJ):=by
 have c_Store_read:FnOk P w K mg base CX0 2 _ _ _ _:=l7 G;have c_ahead_by:FnOk P w K mg base CX0 1 _ _ _ _:=BO G;refine G.rD.ok gu (λvs H Q E h=>?_) (λcdv A' outer s H vs Q E hr h=>?_)
 . obtain⟨q,z,b,w0,w1,w2,p,M,r,A,T,rfl,_⟩:=h;rfl
 . obtain⟨q,z,b,w0,w1,w2,p,M,r,A,T,rfl,⟨dx,hx⟩,S,hp,o1,o2,hA,hT,k⟩:=h;refine⟨_,((@aK _ _ 1 _ _ _ _ gu.nd rfl (Or.inl rfl) (aB (ak (pv 0) rfl) G.aA G.bH c_Store_read (hr.mono (by decide)) G.bY .nil ay ((ak (pv 0) rfl)∣((ak (pv 0) rfl)∣a9))) (by rfl) (by exact .inl rfl))∪((@aK _ _ 2 _ _ _ _ gu.nd rfl (Or.inl rfl) (aB (ak (pv 0) rfl) G.aA G.bH c_Store_read (hr.mono (by decide)) G.bY .nil ay ((ak (pv 0) rfl)∣((ak (pv 0) rfl)∣a9))) (by rfl) (by exact .inl rfl))∪((aS c_ahead_by (hr.mono (by decide)) (by rfl) G.xA G.qf.kp G.xm .nil ay ((pv 1)∣((pv 2)∣((ak (pv 0) rfl)∣((ak (pv 0) rfl)∣a9)))))⁻¹))),?_⟩;obtain⟨dxs,hxs⟩:=S.ob;refine⟨_,rfl,fld hx G.au G.bA g9 ⟨z.x,dxs,_,rfl,hxs,bW (by decide +kernel) (by decide +kernel),_,rfl,fld hx G.au G.bJ j4 ⟨_,rfl,fld hx G.au G.eN rO ⟨z.x,z.hd,z.rl,z.l,M,r,b,.str w1,.str w1,rfl,S,kS o1,?_⟩⟩⟩⟩;rw[hA];refine⟨_,rfl,fld hx G.au G.bA g9 ⟨z.x,dxs,_,rfl,hxs,bW (by decide +kernel) (by decide +kernel),_,rfl,fld hx G.au G.bJ j4 ⟨_,rfl,fld hx G.au G.dL lI ⟨z.x,z.hd,z.rl,z.l,M,r,b,.str w2,.str w2,rfl,S,kS o2,?_⟩⟩⟩⟩;rw[hT];exact⟨_,rfl,_,rfl,_,rfl,fld hx G.au G.eO qI ⟨_,rfl,fld hx G.au G.gB sI ⟨A,T,p.s,p.R,rfl,hp.s0,hp.s8,hp.sR,k⟩⟩⟩
theorem zc (G:Gs K mg a d):FnOk P w K mg base CX0 4 a.cJ d.cJ ["self"] (CJ w a.cr a.aJ):=by
 have c_Ring_filled:FnOk P w K mg base CX0 3 _ _ _ _:=kX G;refine G.p8.ok oy (λvs H Q E h=>?_) (λcdv A' outer s H vs Q E hr h=>?_)
 . obtain⟨q,z,b,w0,w1,w2,p,M,r,A,T,rfl,_⟩:=h;rfl
 . obtain⟨q,z,b,w0,w1,w2,p,M,r,A,T,rfl,⟨dx,hx⟩,S,hp,o1,o2,hA,hT,k⟩:=h;refine⟨_,((ci cm (bf (pv 0) G.au G.eK c_Ring_filled (hr.mono (by decide)) G.ff .nil ay) (ak (pv 0) rfl) (av _))⁻¹),?_⟩;refine⟨_,rfl,q,dx,_,rfl,hx,kR,q,z,b,w0,w1,w2,p,M,r,A,T,rfl,⟨dx,hx⟩,S,hp,o1,o2,hA,hT,_,rfl,fld hx G.au G.eO qI ⟨rfl,?_⟩⟩;have e:decide (V.int ((A - T) % (p.s * p.R))=V.int p.s)=decide ((A - T) % (p.s * p.R)=p.s):=by
    rw[decide_eq_decide];exact⟨fh,λz=>by rw[z]⟩
   rw[e];exact k
theorem qj (G:Gs K mg a d):FnOk P w K mg base CX0 2 a.c9 d.c9 ["self","counter"] (xc a.cr):=by
 have c_place_of:FnOk P w K mg base CX0 1 _ _ _ _:=AH G;refine G.nW.ok ms (λvs H Q E h=>?_) (λcdv A' outer s H vs Q E hr h=>?_)
 . obtain⟨q,st,b,w0,w1,w2,p,A,rfl,_⟩:=h;rfl
 . obtain⟨q,st,b,w0,w1,w2,p,A,rfl,⟨dx,hx⟩,hp,k⟩:=h;refine⟨_,((@aO _ _ _ _ _ ((ak (pv 0) rfl)∣((aS c_place_of (hr.mono (by decide)) (by rfl) G.xF G.pM.kp G.wM .nil ay ((pv 1)∣((ak (pv 0) rfl)∣a9)))∣a9)))⁻¹),?_⟩;exact⟨_,rfl,fld hx G.au G.m7 DE ⟨_,rfl,_,rfl,fld hx G.au G.eO qI ⟨A,p.s,rfl,hp.s0,l2,λt ht=>k t ht⟩⟩⟩
theorem pZ (G:Gs K mg a d):FnOk P w K mg base CX0 2 a.bh d.bh ["self","cell","counter"] (xg w a.cr a.aJ):=by
 have c_Store_write:FnOk P w K mg base CX0 1 _ _ _ _:=kj G;have c_next_counter:FnOk P w K mg base CX0 1 _ _ _ _:=CI G;refine G.jr.ok iO (λvs H Q E h=>?_) (λcdv A' outer s H vs Q E hr h=>?_)
 . obtain⟨q,z,b,w0,w1,w2,p,M,r,A,cv,ke,rfl,_⟩:=h;rfl
 . obtain⟨q,z,b,w0,w1,w2,p,M,r,A,cv,ke,rfl,⟨dx,hx⟩,S,hp,hl,hk,k⟩:=h;refine⟨_,(@ap _ _ _ (@b6 _ _ _ _ (aB (ak (pv 0) rfl) G.aA G.cX c_Store_write (hr.mono (by decide)) G.dO .nil ay ((ak (pv 0) rfl)∣((pv 1)∣((aS c_next_counter (hr.mono (by decide)) (by rfl) G.pj G.jF.kp G.oH .nil ay ((pv 2)∣((ak (pv 0) rfl)∣((ak (pv 0) rfl)∣a9))))∣a9)))) (by rfl))),?_⟩;obtain⟨dxs,hxs⟩:=S.ob;exact⟨_,rfl,fld hx G.au G.bA g9 ⟨z.x,dxs,_,rfl,hxs,bW (by decide +kernel) (by decide +kernel),_,rfl,fld hx G.au G.bJ j4 ⟨_,rfl,_,rfl,_,rfl,fld hx G.au G.eO qI ⟨_,rfl,fld hx G.au G.gB sI
    ⟨A,p.s,p.R,rfl,hp.s0,hp.s8,hp.sR,z.x,z.hd,z.rl,z.l,M,r,b,cv,_,ke,rfl,S,hl,hk,λH' S' kp'=>k H' S' kp'⟩⟩⟩⟩⟩
theorem Ci (G:Gs K mg a d):FnOk P w K mg base CX0 4 a.hV d.hV ["self","name","worth"] (Fe w a.cr a.aJ):=by
 have c_Store_read:FnOk P w K mg base CX0 2 _ _ _ _:=l7 G;have c_Store_write:FnOk P w K mg base CX0 1 _ _ _ _:=kj G;have c_Ring_write_further:FnOk P w K mg base CX0 2 _ _ _ _:=pZ G;have c_Ring_place_at:FnOk P w K mg base CX0 2 _ _ _ _:=qj G;refine G.xE.ok oF (λvs H Q E h=>?_) (λcdv A' outer s H vs Q E hr h=>?_)
 . obtain⟨q,z,b,w0,w1,w2,p,M,r,A,nm,wv,rfl,_⟩:=h;rfl
 . obtain⟨q,z,b,w0,w1,w2,p,M,r,A,nm,wv,rfl,⟨dx,hx⟩,S,hp,o0,o1,hl,hA,k⟩:=h;refine⟨_,((@aK _ _ 3 _ _ _ _ oF.nd rfl (Or.inl rfl) (aB (ak (pv 0) rfl) G.aA G.bH c_Store_read (hr.mono (by decide)) G.bY .nil ay ((ak (pv 0) rfl)∣((ak (pv 0) rfl)∣a9))) (by rfl) (by exact .inl rfl))∪((aL (bT (ak (pv 0) rfl)) (@ap _ _ _ (@b6 _ _ _ _ (aB (pv 0) G.au G.cx c_Ring_write_further (hr.mono (by decide)) G.cQ .nil ay ((ak (pv 0) rfl)∣((pv 3)∣a9))) (by rfl))) aj)∪((@b6 _ _ _ _ (aB (ak (pv 0) rfl) G.aA G.cX c_Store_write (hr.mono (by decide)) G.dO .nil ay ((ak (pv 0) rfl)∣((aB (pv 0) G.au G.iH c_Ring_place_at (hr.mono (by decide)) G.j8 .nil ay ((pv 3)∣a9))∣((@aO _ _ _ _ _ ((pv 1)∣((pv 2)∣a9)))∣a9)))) (by rfl))∪(@ap _ _ _ (aL (fT (bT (ak (pv 0) rfl))) (@ap _ _ _ (@b6 _ _ _ _ (aB (pv 0) G.au G.cx c_Ring_write_further (hr.mono (by decide)) G.cQ .nil ay ((ak (pv 0) rfl)∣((pv 3)∣a9))) (by rfl))) aj))))),?_⟩;obtain⟨dxs,hxs⟩:=S.ob;refine⟨_,rfl,fld hx G.au G.bA g9 ⟨z.x,dxs,_,rfl,hxs,bW (by decide +kernel) (by decide +kernel),_,rfl,fld hx G.au G.bJ j4 ⟨_,rfl,fld hx G.au G.eN rO ⟨z.x,z.hd,z.rl,z.l,M,r,b,.str w1,.str w1,rfl,S,kS o1,?_⟩⟩⟩⟩;rw[hA];refine⟨_,rfl,fld hx G.au G.bK rM ⟨_,rfl,?_⟩⟩;cases he:p.e with
  |true =>
    refine fX ?_;refine⟨_,rfl,q,dx,_,rfl,hx,lm,_,rfl,fld hx G.au G.eN rO ⟨_,rfl,q,z,b,w0,w1,w2,p,M,r,A,.str w1,.str w1,rfl,⟨dx,hx⟩,S,hp,by omega,kS o1,λH1 S1 kp1=>?_⟩⟩;have hx1:=kp1 _ _ (S.noI hx) hx;obtain⟨dx1,hs1⟩:=S1.ob;refine⟨_,rfl,fld hx1 G.au G.bA g9 ⟨z.x,dx1,_,rfl,hs1,bW (by decide +kernel) (by decide +kernel),_,rfl,fld hx1 G.au G.bJ j4 ⟨_,rfl,q,dx,_,rfl,hx1,qw,_,rfl,q,z.x,b,w0,w1,w2,p,A,rfl,⟨dx,hx1⟩,hp,λt1 ht1=>⟨_,rfl,_,rfl,l2,λt2 ht2=>?_⟩⟩⟩⟩;have e1:=ag (o:=.tup [V.str w0,V.int (A % p.s)]) ht1;have e2:=ag (o:=.tup [nm,wv]) ht2;have e12:=e1.trans e2;have S2:=S1.same e12;have v1:=e2 _ _ (a6 (H:=H1) (a:=t1) (o:=.tup [V.str w0,V.int (A % p.s)]));have v2:=a6 (H:=upd H1 t1 (.tup [V.str w0,V.int (A % p.s)])) (a:=t2) (o:=.tup [nm,wv]);have n2:H t2=none:=fu kp1 (b9 e1 ht2) λx hx=>by
     obtain⟨ts,e,_⟩:=S1.rw b;rw[mem_singleton.mp hx,e];intro z;cases z
    have hx2:=e12 _ _ hx1;generalize upd (upd H1 t1 (.tup [V.str w0,V.int (A % p.s)])) t2 (.tup [nm,wv])=H2 at e2 e12 S2 v1 v2 hx2 |-;refine⟨z.x,z.hd,z.rl,z.l,M,_,b,.ref t1,.ref t2,.tuple [.str w0,.int (A % p.s)],rfl,S2,by rw[aD,List.length_append];show _+1 < _;omega,kT o0 v1,λH3 S3 kp3=>?_⟩;have hx3:=kp3 _ _ (S2.noI hx2) hx2;refine⟨_,rfl,fld hx3 G.au G.bK rM ⟨_,rfl,?_⟩⟩;rw[he];refine cU ?_;refine k t2 H3 n2 (kp3 _ _ (S2.noT v2) v2) ?_ λc o n e=>kp3 c o n (e12 _ _ (kp1 c o n e))
    rw[aD,pR,List.append_assoc]at S3;unfold nK;rw[he];exact S3
  |false =>
    refine cU ?_;refine⟨_,rfl,fld hx G.au G.bA g9 ⟨z.x,dxs,_,rfl,hxs,bW (by decide +kernel) (by decide +kernel),_,rfl,fld hx G.au G.bJ j4 ⟨_,rfl,q,dx,_,rfl,hx,qw,_,rfl,q,z.x,b,w0,w1,w2,p,A,rfl,⟨dx,hx⟩,hp,λt1 ht1=>⟨_,rfl,_,rfl,l2,λt2 ht2=>?_⟩⟩⟩⟩;have e1:=ag (o:=.tup [V.str w0,V.int (A % p.s)]) ht1;have e2:=ag (o:=.tup [nm,wv]) ht2;have e12:=e1.trans e2;have S2:=S.same e12;have v1:=e2 _ _ (a6 (H:=H) (a:=t1) (o:=.tup [V.str w0,V.int (A % p.s)]));have v2:=a6 (H:=upd H t1 (.tup [V.str w0,V.int (A % p.s)])) (a:=t2) (o:=.tup [nm,wv]);have n2:H t2=none:=b9 e1 ht2;have hx2:=e12 _ _ hx;generalize upd (upd H t1 (.tup [V.str w0,V.int (A % p.s)])) t2 (.tup [nm,wv])=H2 at e2 e12 S2 v1 v2 hx2 |-;refine⟨z.x,z.hd,z.rl,z.l,M,r,b,.ref t1,.ref t2,.tuple [.str w0,.int (A % p.s)],rfl,S2,by omega,kT o0 v1,λH3 S3 kp3=>?_⟩;have hx3:=kp3 _ _ (S2.noI hx2) hx2;refine⟨_,rfl,fld hx3 G.au G.bK rM ⟨_,rfl,?_⟩⟩;rw[he];refine fX ?_;refine⟨_,rfl,q,dx,_,rfl,hx3,lm,_,rfl,fld hx3 G.au G.eN rO ⟨_,rfl,q,z,b,w0,w1,w2,p,M,_,A,.str w1,.str w1,rfl,⟨dx,hx3⟩,S3,hp,by rw[aD,List.length_append];show _+1 < _;omega,kS o1,λH4 S4 kp4=>?_⟩⟩;have v3:=kp3 _ _ (S2.noT v2) v2;refine k t2 H4 n2 (kp4 _ _ (S3.noT v3) v3) ?_ λc o n e=>kp4 c o n (kp3 c o n (e12 _ _ e))
    rw[aD,pR,List.append_assoc]at S4;unfold nK;rw[he];exact S4
theorem vg (G:Gs K mg a d):FnOk P w K mg base CX0 5 a.en d.en ["self"] (B8 w a.cr a.aJ):=by
 have c_Store_read:FnOk P w K mg base CX0 2 _ _ _ _:=l7 G;have c_Ring_filled:FnOk P w K mg base CX0 3 _ _ _ _:=kX G;have c_Ring_write_further:FnOk P w K mg base CX0 2 _ _ _ _:=pZ G;have c_Ring_place_at:FnOk P w K mg base CX0 2 _ _ _ _:=qj G;refine G.tK.ok ij (λvs H Q E h=>?_) (λcdv A' outer s H vs Q E hr h=>?_)
 . obtain⟨q,z,b,w0,w1,w2,p,M,r,A,T,rfl,_⟩:=h;rfl
 . obtain⟨q,z,b,w0,w1,w2,p,M,r,A,T,rfl,⟨dx,hx⟩,S,hp,o0,o1,o2,hl,hA,hT,k⟩:=h;refine⟨_,((aL (ao cm (bf (pv 0) G.au G.eK c_Ring_filled (hr.mono (by decide)) G.ff .nil ay) ac (av _)) (cq⁻¹) aj)∪((@aK _ _ 1 _ _ _ _ ij.nd rfl (Or.inl rfl) (aB (ak (pv 0) rfl) G.aA G.bH c_Store_read (hr.mono (by decide)) G.bY .nil ay ((ak (pv 0) rfl)∣((ak (pv 0) rfl)∣a9))) (by rfl) (by exact .inl rfl))∪((@aK _ _ 2 _ _ _ _ ij.nd rfl (Or.inl rfl) (aB (ak (pv 0) rfl) G.aA G.bH c_Store_read (hr.mono (by decide)) G.bY .nil ay ((ak (pv 0) rfl)∣((aB (pv 0) G.au G.iH c_Ring_place_at (hr.mono (by decide)) G.j8 .nil ay ((pv 1)∣a9))∣a9))) (by rfl) (by exact .inl rfl))∪((@b6 _ _ _ _ (aB (pv 0) G.au G.cx c_Ring_write_further (hr.mono (by decide)) G.cQ .nil ay ((ak (pv 0) rfl)∣((pv 1)∣a9))) (by rfl))∪((mS (bT (aI b7 (by rfl) G.aP aH ((pv 2)∣((cR (v:=.ty "tuple") (by rfl) G.dP cn rfl)∣a9)))) (pv 2) (@aO _ _ _ _ _ (cq∣(cq∣a9))))⁻¹))))),?_⟩;obtain⟨dxs,hxs⟩:=S.ob;refine⟨_,rfl,q,dx,_,rfl,hx,kR,q,z,b,w0,w1,w2,p,M,r,A,T,rfl,⟨dx,hx⟩,S,hp,o1,o2,hA,hT,rfl,_,rfl,?_⟩;by_cases h0:(A - T) % (p.s * p.R)=0
   . rw[if_pos h0]at k;rw[h0];exact yt rfl k
   rw[if_neg h0]at k;refine qK (λz=>h0 (fh z)) ?_;refine⟨_,rfl,fld hx G.au G.bA g9 ⟨z.x,dxs,_,rfl,hxs,bW (by decide +kernel) (by decide +kernel),_,rfl,fld hx G.au G.bJ j4 ⟨_,rfl,fld hx G.au G.dL lI ⟨z.x,z.hd,z.rl,z.l,M,r,b,.str w2,.str w2,rfl,S,kS o2,?_⟩⟩⟩⟩;rw[hT];refine⟨_,rfl,fld hx G.au G.bA g9 ⟨z.x,dxs,_,rfl,hxs,bW (by decide +kernel) (by decide +kernel),_,rfl,fld hx G.au G.bJ j4 ⟨_,rfl,q,dx,_,rfl,hx,qw,_,rfl,q,z.x,b,w0,w1,w2,p,T,rfl,⟨dx,hx⟩,hp,λt1 ht1=>?_⟩⟩⟩;have e1:=ag (o:=.tup [V.str w0,V.int (T % p.s)]) ht1;have S1:=S.same e1;have v1:=a6 (H:=H) (a:=t1) (o:=.tup [V.str w0,V.int (T % p.s)]);have hx1:=e1 _ _ hx;generalize upd H t1 (.tup [V.str w0,V.int (T % p.s)])=H1 at e1 S1 v1 hx1 |-;refine⟨z.x,z.hd,z.rl,z.l,M,r,b,.ref t1,.tuple [.str w0,.int (T % p.s)],rfl,S1,kT o0 v1,?_⟩;refine⟨_,rfl,q,dx,_,rfl,hx1,lm,_,rfl,fld hx1 G.au G.dL lI ⟨_,rfl,q,z,b,w0,w1,w2,p,M,r,T,.str w2,.str w2,rfl,⟨dx,hx1⟩,S1,hp,hl,kS o2,λH2 S2 kp2=>?_⟩⟩;rcases k with⟨c,vs,e,hc,k⟩|⟨i,e,k⟩
   . rw[e];have hc2:=kp2 _ _ (S1.noT (e1 _ _ hc)) (e1 _ _ hc);exact⟨_,rfl,_,_,_,true,rfl,TyOf.tup hc2,Cu,_,rfl,fX ⟨_,rfl,k H2 S2 λc o n q=>kp2 c o n (e1 _ _ q)⟩⟩
   . rw[e];refine⟨_,rfl,_,_,_,false,rfl,TyOf.int i,FS,_,rfl,cU ⟨l2,λt ht=>?_⟩⟩;have e3:=ag (o:=.tup [V.non,V.non]) ht;have n3:H t=none:=b9 e1 (fu kp2 ht λx hx=>by
      obtain⟨ts,e,_⟩:=S2.rw b;rw[mem_singleton.mp hx,e];intro z;cases z)
     exact k t _ n3 a6 (S2.same e3) λc o n q=>e3 _ _ (kp2 c o n (e1 _ _ q))
def AQ (CH CR:Addr):Sp:=λvs H Q _=>∃ (h dx st ft:Addr) (s R n:Int) (fs:List Str),vs=[.ref h,.ref st,.int s,.int R,.int n,.ref ft]/\H h=some (.ins CH dx [])/\H ft=some (.tup (fs.map V.str)) /\
 ∀ (z:HA) (H':Hp),z.h=h->H z.ra=none->H z.rb=none->H z.gd=none->Hn CH CR H' z st ⟨s,if fs.contains "round" then 1 else R,fs.contains "counter"⟩ n []->Kp [h] H H'->Q .non H'
def Be (CH CR:Addr):Sp:=λvs H Q _=>∃ (z:HA) (st:Addr) (p:RP) (n:Nat) (aw:List Int),vs=[.ref z.h]/\Hn CH CR H z st p n aw/\n <= 9/\Q (match bw n aw with|some k=>.int k|none=>.non) H
def vT (w:World) (CH CR CS F N:Addr):Sp:=λvs H Q E=>∃ (z:HA) (sa:SA) (p:RP) (n:Nat) (aw:List Int) (M:List (PyData × V)) (r:Bool->List (PyData × V)) (A T:Int),vs=[.ref z.h]/\Hn CH CR H z sa.x p n aw/\sa.At w CS H M r/\p.Ok/\n <= 9 /\
 cC M (r false) (.str "asked")=.int A/\cC M (r false) (.str "taken")=.int T/\if (A - T) % (p.s * p.R)=p.s then E (.ref F) none H else match bw n aw with|none=>E (.ref N) none H|some _=>Q .non H
def BU (w:World) (CH CR CS F N:Addr):Sp:=λvs H Q E=>∃ (z:HA) (sa:SA) (p:RP) (n:Nat) (aw:List Int) (M:List (PyData × V)) (r:Bool->List (PyData × V)) (wv:V) (A T:Int),vs=[.ref z.h,wv]/\Hn CH CR H z sa.x p n aw/\sa.At w CS H M r/\p.Ok/\n <= 9/\aw.length < 1000/\(r false).length < 99999 /\
 cC M (r false) (.str "asked")=.int A/\cC M (r false) (.str "taken")=.int T/\if (A - T) % (p.s * p.R)=p.s then E (.ref F) none H else match bw n aw with
 |none=>E (.ref N) none H
 |some nm=>∀ t H',H t=none->H' t=some (.tup [.int nm,wv])->Hn CH CR H' z sa.x p n (aw++[nm])->sa.At w CS H' M (ba r false (r false++nK p "ask" "asked" A (.ref t)))->Kp [z.gd,sa.l false] H H'->Q (.int nm) H'
def An (CH CR:Addr):Sp:=λvs H Q _=>∃ (z:HA) (st:Addr) (p:RP) (n:Int) (aw:List Int),vs=[.ref z.h]/\Hn CH CR H z st p n aw/\aw.length < 64/\∀ (l:Addr) (ns:List Int),H l=none->ns.Perm aw->ns.Pairwise (· <= ·)->Q (.ref l) (upd H l (.lst (ns.map V.int)))
def qg (w:World) (CH CR CS:Addr):Sp:=λvs H Q _=>∃ (z:HA) (sa:SA) (p:RP) (n:Int) (aw:List Int) (M:List (PyData × V)) (r:Bool->List (PyData × V)) (A T:Int),vs=[.ref z.h]/\Hn CH CR H z sa.x p n aw/\sa.At w CS H M r/\p.Ok/\(r false).length < 100000 /\
 cC M (r false) (.str "answered")=.int A/\cC M (r false) (.str "handed")=.int T/\(if (A - T) % (p.s * p.R)=0 then Q .non H else
  (∃ c nm wv,cC M (r false) (.tuple [.str "answer",.int (T % p.s)])=.ref c/\H c=some (.tup [.int nm,wv])/\∀ H',Hn CH CR H' z sa.x p n (aw.filter λk=>decide (k≠nm))->sa.At w CS H' M (ba r false (r false++[(.str "handed",.int ((T+1) % (p.s * p.R)))]))->Kp [z.gd,sa.l false] H H'->Q (.ref c) H') \/
  ∃ i,cC M (r false) (.tuple [.str "answer",.int (T % p.s)])=.int i/\∀ t H',H t=none->H' t=some (.tup [.non,.non])->Hn CH CR H' z sa.x p n aw->sa.At w CS H' M (ba r false (r false++[(.str "handed",.int ((T+1) % (p.s * p.R)))]))->Kp [sa.l false] H H'->Q (.ref t) H')
theorem BI (G:Gs K mg a d):FnOk P w K mg base CX0 4 a.eF d.eF ["self","store","size","rounds","names","faults"] (AQ a.dQ a.cr):=by
 have c_Ring__init:FnOk P w K mg base CX0 2 _ _ _ _:=wl G;refine G.sG.ok rW (λvs H Q E h=>?_) (λcdv A outer s H vs Q E hr h=>?_)
 . obtain⟨h,dx,st,ft,s,R,n,fs,rfl,_⟩:=h;rfl
 . obtain⟨h,dx,st,ft,s,R,n,fs,rfl,hx,hf,k⟩:=h;refine⟨_,((bL (pv 0) (jS G.vt c_Ring__init (hr.mono (by decide)) (by rfl) G.vK G.gc .nil ay ((pv 1)∣(ac∣((iZ (v:=.ref a.jA) (by rfl) G.BV rfl)∣((pv 2)∣((pv 3)∣((pv 5)∣a9))))))) rfl)∪((bL (pv 0) (jS G.vt c_Ring__init (hr.mono (by decide)) (by rfl) G.vK G.gc .nil ay ((pv 1)∣(ac∣((iZ (v:=.ref a.cW) (by rfl) G.tV rfl)∣((pv 2)∣((pv 3)∣((pv 5)∣a9))))))) rfl)∪((bL (pv 0) (pv 4) rfl)∪(@ap _ _ _ (bL (pv 0) qN rfl))))),?_⟩;refine⟨_,rfl,_,rfl,_,rfl,_,rfl,λra da na nda nea=>?_⟩;refine⟨ra,da,st,a.jA,ft,false,"ask","asked","taken",s,R,fs,rfl,a6,G.Cd,?_,λH1 r1 kp1=>?_⟩
   . rw[aa (ae hf na),aa (ae hf nda)];exact hf
   have e1:bG H H1:=λc o e=>kp1 c o (λz=>ae e na (mem_singleton.mp z)) (by rw[aa (ae e na),aa (ae e nda)];exact e)
   clear kp1;refine⟨rfl,_,rfl,h,a.dQ,dx,[],rfl,e1 _ _ hx,G.bE,G.iW,by decide,?_⟩;have n1:ra≠h:=λz=>by rw[z,hx]at na;cases na
   have hx1:=e1 _ _ hx;have kp2:Kp [h] H (upd H1 h (.ins a.dQ dx (bO "asks" (.ref ra) []))):=λc o n e=>by rw[aa λz=>n (mem_singleton.mpr z)];exact e1 _ _ e
   have hx2:upd H1 h (.ins a.dQ dx (bO "asks" (.ref ra) [])) h=some (.ins a.dQ dx (bO "asks" (.ref ra) [])):=a6;have r2:=r1.keep (H':=upd H1 h (.ins a.dQ dx (bO "asks" (.ref ra) []))) λo e=>by rw[aa n1];exact e
   have hf2:upd H1 h (.ins a.dQ dx (bO "asks" (.ref ra) [])) ft=some (.tup (fs.map V.str)):=by
    rw[aa (ii (e1 _ _ hf) hx1 (by intro z;cases z))];exact e1 _ _ hf
   generalize upd H1 h (.ins a.dQ dx (bO "asks" (.ref ra) []))=H2 at kp2 hx2 r2 hf2 |-;refine⟨_,rfl,_,rfl,_,rfl,_,rfl,λrb db nb ndb neb=>?_⟩;refine⟨rb,db,st,a.cW,ft,false,"answer","answered","handed",s,R,fs,rfl,a6,G.sK,?_,λH3 r3 kp3=>?_⟩
   . rw[aa (ae hf2 nb),aa (ae hf2 ndb)];exact hf2
   have e3:bG H2 H3:=λc o e=>kp3 c o (λz=>ae e nb (mem_singleton.mp z)) (by rw[aa (ae e nb),aa (ae e ndb)];exact e)
   clear kp3;have nbH:H rb=none:=fu kp2 nb λx m=>by rw[mem_singleton.mp m,hx2];intro z;cases z
   have n3:rb≠h:=λz=>by rw[z,hx2]at nb;cases nb
   refine⟨rfl,_,rfl,h,a.dQ,dx,_,rfl,e3 _ _ hx2,G.bE,G.fo,by show 1 < 1000;decide,?_⟩;refine⟨_,rfl,_,rfl,h,a.dQ,dx,_,rfl,a6,G.bE,G.kJ,by show 2 < 1000;decide,?_⟩;rw[cP];refine λgd hg=>⟨_,rfl,h,a.dQ,dx,_,rfl,(by rw[aa (ae a6 hg)];exact a6),G.bE,G.cM,by show 3 < 1000;decide,?_⟩
   obtain⟨ng,hg3⟩:=up1 hg;have gdH:H gd=none:=fu kp2 (b9 e3 hg3) λx m=>by rw[mem_singleton.mp m,hx2];intro z;cases z
   refine k ⟨h,ra,rb,gd⟩ _ rfl na nbH gdH ⟨⟨dx,a6⟩,(r2.keep λo e=>e3 _ _ e).keep λo e=>?_,r3.keep λo e=>?_,?_⟩ λc o nc ec=>?_
   . rw[aa n1,aa (ae e hg3),aa n1];exact e
   . rw[aa n3,aa (ae e hg3),aa n3];exact e
   . rw[aa ng,a6];rfl
   . have c1:c≠h:=λz=>nc (mem_singleton.mpr z)
     have e4:=e3 _ _ (kp2 c o nc ec);rw[aa c1,aa (ae e4 hg3),aa c1];exact e4
theorem wo (G:Gs K mg a d):FnOk P w K mg base CX0 1 a.bD d.bD ["self"] (Be a.dQ a.cr):=by
 refine G.lD.ok ge (λvs H Q E h=>?_) (λcdv A outer s H vs Q E hr h=>?_)
 . obtain⟨z,st,p,n,aw,rfl,_⟩:=h;rfl
 . obtain⟨z,st,p,n,aw,rfl,hn,hn9,k⟩:=h;have hu:=eZ hr;refine⟨_,((iJ PassesOwn.never rfl (nN (by rfl) G.qL ((ak (pv 0) rfl)∣a9)) (aR (i:=1) ge.nd rfl (Or.inl rfl)) (@ap _ _ _ (aL (BQ (sw hu (pv 1) (ak (pv 0) rfl))) ((pv 1)⁻¹) aj)))∪(cq⁻¹)),?_⟩;obtain⟨dx,hx⟩:=hn.ob;refine⟨_,rfl,fld hx G.bE G.kJ AC ⟨n,rfl,by omega,by omega,?_⟩⟩;refine kI (n:=((n:Nat):Int).toNat) (λi σ H'=>(∃ v,σ=[some (.ref z.h),v])/\H'=H/\∀ j < i,aw.contains (j:Int)=true) ⟨⟨_,rfl⟩,rfl,λj hj=>absurd hj (by omega)⟩ ?_ ?_
   . rintro i σ H' hi ⟨⟨v,rfl⟩,rfl,hno⟩;rw[Int.zero_add];refine⟨_,rfl,_,rfl,fld hx G.bE G.cM kz ⟨z.gd,_,rfl,Aa.k (k:=.inl (i:Int)) hn.go,_,rfl,?_⟩⟩;rw[nj];cases hc:aw.contains (i:Int) with
    |false =>
      rw[xk (by omega) hc hno]at k;exact fX ⟨_,rfl,k⟩
    |true =>
      refine cU ⟨⟨_,rfl⟩,rfl,λj hj=>?_⟩;by_cases hji:j < i
      . exact hno j hji
      . have e:j=i:=by omega
        rw[e];exact hc
   . rintro σ H' ⟨⟨v,rfl⟩,rfl,hno⟩;rw[xG λj hj=>hno j (by omega)]at k;exact k
theorem vh (G:Gs K mg a d):FnOk P w K mg base (CXv P w) 6 a.bM d.bM ["self"] (vT w a.dQ a.cr a.aJ a.uM a.gI):=by
 have c_Ring_is_full:FnOk P w K mg base CX0 4 _ _ _ _:=zc G;have c_Hand_least_free:FnOk P w K mg base CX0 1 _ _ _ _:=wo G;refine G.mG.okX (k:=5) lR (λvs H Q E h=>?_) (λcdv A' outer s' H vs Q E hr hR h=>?_)
 . obtain⟨z,sa,p,n,aw,M,r,A,T,rfl,_⟩:=h;rfl
 . obtain⟨z,sa,p,n,aw,M,r,A,T,rfl,hn,S,hp,n9,hA,hT,k⟩:=h;refine⟨_,((aL (bT (bf (ak (pv 0) rfl) G.au G.iS c_Ring_is_full (hr.mono (by decide)) G.jD .nil ay)) (@ap _ _ _ (iB hR hr.hd (by rfl) G.zF G.xc_Full (ai∣a9))) aj)∪(@ap _ _ _ (aL (ao sV (bf (pv 0) G.bE G.g6 c_Hand_least_free (hr.mono (by decide)) G.gF .nil ay) cq (av _)) (@ap _ _ _ (iB hR hr.hd (by rfl) G.vX G.xc_NoName (ai∣a9))) aj))),?_⟩;obtain⟨dx,hx⟩:=hn.ob;obtain⟨dr,hra⟩:=hn.ra;refine⟨_,rfl,fld hx G.bE G.iW yj ⟨z.ra,dr,_,rfl,hra,y4,z.ra,sa,false,"ask","asked","taken",p,M,r,A,T,rfl,⟨dr,hra⟩,S,hp,by decide +kernel,by decide +kernel,hA,hT,_,rfl,?_⟩⟩;by_cases hc:(A - T) % (p.s * p.R)=p.s
   . rw[if_pos hc]at k;exact yt hc ⟨by show 1 <= sizeLine;decide,k⟩
   rw[if_neg hc]at k;refine qK hc ?_;refine⟨_,rfl,z.h,dx,_,rfl,hx,vy,z,sa.x,p,n,aw,rfl,hn,n9,rfl,_,rfl,?_⟩;cases hle:bw n aw with
  |none =>
    rw[hle]at k;exact yt rfl ⟨by show 1 <= sizeLine;decide,k⟩
  |some nm =>
    rw[hle]at k;exact qK (by intro z;cases z) k
theorem Fk (G:Gs K mg a d):FnOk P w K mg base (CXv P w) 8 a.ie d.ie ["self","worth"] (BU w a.dQ a.cr a.aJ a.uM a.gI):=by
 have cx_Hand_check_ask:FnOk P w K mg base (CXv P w) 6 _ _ _ _:=vh G;have c_Hand_least_free:FnOk P w K mg base CX0 1 _ _ _ _:=wo G;have c_Ring_lay:FnOk P w K mg base CX0 4 _ _ _ _:=Ci G;refine G.ww.okX (k:=7) oE (λvs H Q E h=>?_) (λcdv A' outer s' H vs Q E hr hR h=>?_)
 . obtain⟨z,sa,p,n,aw,M,r,wv,A,T,rfl,_⟩:=h;rfl
 . obtain⟨z,sa,p,n,aw,M,r,wv,A,T,rfl,hn,S,hp,n9,hal,hrl,hA,hT,k⟩:=h;have hu:=eZ hr;refine⟨_,((@b6 _ _ _ _ (bf (pv 0) G.bE G.gE cx_Hand_check_ask (hr.mono (by decide)) G.iG .nil hR.passes) (by rfl))∪((@aK _ _ 2 _ _ _ _ oE.nd rfl (Or.inl rfl) (bf (pv 0) G.bE G.g6 c_Hand_least_free (hr.mono (by decide)) G.gF .nil ay) (by rfl) (by exact .inl rfl))∪((uc hu (ak (pv 0) rfl) (pv 2) eg rfl)∪((@b6 _ _ _ _ (aB (ak (pv 0) rfl) G.au G.nY c_Ring_lay (hr.mono (by decide)) G.pL .nil ay ((pv 2)∣((pv 1)∣a9))) (by rfl))∪((pv 2)⁻¹))))),?_⟩;obtain⟨dx,hx⟩:=hn.ob;refine⟨_,rfl,z.h,dx,_,rfl,hx,wf,z,sa,p,n,aw,M,r,A,T,rfl,hn,S,hp,n9,hA,hT,?_⟩;by_cases hc:(A - T) % (p.s * p.R)=p.s
   . rw[if_pos hc]at k |-;exact k
   rw[if_neg hc]at k |-;cases hle:bw n aw with
  |none=>rw[hle]at k;exact k
  |some nm =>
    rw[hle]at k;refine⟨_,rfl,z.h,dx,_,rfl,hx,vy,z,sa.x,p,n,aw,rfl,hn,n9,?_⟩;rw[hle];refine⟨_,rfl,fld hx G.bE G.cM kz ⟨_,rfl,z.gd,_,rfl,Ej.k (k:=.inl nm) hn.go (Nat.lt_of_lt_of_le (by rw[C4];exact hal) (by decide)),?_⟩⟩;rw[Cb nm aw (jn hle)];have n1:z.h≠z.gd:=ii hx hn.go (by intro z;cases z);have kp1:Kp [z.gd] H (upd H z.gd (.dK (gK (aw++[nm])))):=Kp.one;have S1:=Sto.kp S kp1 (λc hc=>by rw[mem_singleton.mp hc];exact S.noD hn.go) (λc hc vs e=>by rw[mem_singleton.mp hc,hn.go]at e;cases e);have hn1:Hn a.dQ a.cr (upd H z.gd (.dK (gK (aw++[nm])))) z sa.x p n (aw++[nm]):=by
     obtain⟨d1,x1⟩:=hn.ra;obtain⟨d2,x2⟩:=hn.rb;exact⟨⟨dx,by rw[aa n1];exact hx⟩,⟨d1,by rw[aa (ii x1 hn.go (by intro z;cases z))];exact x1⟩,⟨d2,by rw[aa (ii x2 hn.go (by intro z;cases z))];exact x2⟩,a6⟩
    generalize upd H z.gd (.dK (gK (aw++[nm])))=H1 at kp1 S1 hn1 |-;obtain⟨dx1,hx1⟩:=hn1.ob;obtain⟨dr,hra⟩:=hn1.ra;refine⟨_,rfl,fld hx1 G.bE G.iW yj ⟨z.ra,dr,_,rfl,hra,BX,_,rfl,_,rfl,z.ra,sa,false,"ask","asked","taken",p,M,r,A,.int nm,wv,rfl,⟨dr,hra⟩,S1,hp,by decide +kernel,by decide +kernel,hrl,hA,λt H2 n2 v2 S2 kp2=>⟨_,rfl,?_⟩⟩⟩;refine k t H2 (fu kp1 n2 λx m=>by rw[mem_singleton.mp m,hn1.go];intro z;cases z) v2 (hn1.lists kp2 λc m=>.inl ?_) S2 λc o nc e=>?_
    . obtain⟨ts,e,_⟩:=S1.rw false;exact⟨ts,by rw[mem_singleton.mp m];exact e⟩
    . exact kp2 c o (λm=>nc (mem_cons_of_mem _ m)) (kp1 c o (λm=>nc (by rw[mem_singleton.mp m];exact mem_cons_self)) e)
theorem Bi (G:Gs K mg a d):FnOk P w K mg base CX0 1 a.bQ d.bQ ["self"] (An a.dQ a.cr):=by
 refine G.mz.ok l8 (λvs H Q E h=>?_) (λcdv A outer s H vs Q E hr h=>?_)
 . obtain⟨z,st,p,n,aw,rfl,_⟩:=h;rfl
 . obtain⟨z,st,p,n,aw,rfl,hn,hl,k⟩:=h;refine⟨_,((aI (mf rfl) (by rfl) G.mH kU ((ak (pv 0) rfl)∣a9))⁻¹),?_⟩;obtain⟨dx,hx⟩:=hn.ob;exact⟨_,rfl,fld hx G.bE G.cM kz ⟨z.gd,_,aw,rfl,hn.go,by unfold gK;rw[map_map];rfl,hl,λp ns hp h1 h2=>k p ns hp h1 h2⟩⟩
theorem wD (G:Gs K mg a d):FnOk P w K mg base CX0 7 a.cu d.cu ["self"] (qg w a.dQ a.cr a.aJ):=by
 have c_Ring_fetch:FnOk P w K mg base CX0 5 _ _ _ _:=vg G;refine G.pF.ok j6 (λvs H Q E h=>?_) (λcdv A' outer s' H vs Q E hr h=>?_)
 . obtain⟨z,sa,p,n,aw,M,r,A,T,rfl,_⟩:=h;rfl
 . obtain⟨z,sa,p,n,aw,M,r,A,T,rfl,hn,S,hp,hrl,hA,hT,k⟩:=h;refine⟨_,((@aK _ _ 1 _ _ _ _ j6.nd rfl (Or.inl rfl) (bf (ak (pv 0) rfl) G.au G.ky c_Ring_fetch (hr.mono (by decide)) G.lW .nil ay) (by rfl) (by exact .inl rfl))∪((aL (ao lH (pv 1) cq (av _)) (@ap _ _ _ (@b6 _ _ _ _ (zi (ak (pv 0) rfl) (@ax _ _ _ _ _ _ _ ar (pv 1) ac (λ_ _=>rfl)) cq ⟨rfl,rfl,rfl,rfl⟩) (by rfl))) aj)∪((pv 1)⁻¹))),?_⟩;obtain⟨dx,hx⟩:=hn.ob;obtain⟨dr,hrb⟩:=hn.rb;refine⟨_,rfl,fld hx G.bE G.fo pQ ⟨z.rb,dr,_,rfl,hrb,vP,z.rb,sa,false,"answer","answered","handed",p,M,r,A,T,rfl,⟨dr,hrb⟩,S,hp,by decide +kernel,by decide +kernel,by decide +kernel,hrl,hA,hT,?_⟩⟩;by_cases h0:(A - T) % (p.s * p.R)=0
   . rw[if_pos h0]at k |-;exact⟨_,rfl,rfl,_,rfl,cU ⟨_,rfl,k⟩⟩
   rw[if_neg h0]at k |-;rcases k with⟨c,nm,wv,hrd,hc,k⟩|⟨i,hrd,k⟩
   rotate_left
   . refine .inr ⟨i,hrd,λt H1 n1 v1 S1 kp1=>?_⟩;have hn1:=hn.lists kp1 λc m=>.inl (by
      obtain⟨ts,e,_⟩:=S.rw false;exact⟨ts,by rw[mem_singleton.mp m];exact e⟩)
     obtain⟨dx1,hx1⟩:=hn1.ob;exact⟨_,rfl,rfl,_,rfl,fX ⟨_,rfl,fld hx1 G.bE G.cM kz ⟨z.gd,rfl,.inl ⟨_,.inl hn1.go⟩,_,rfl,t,_,_,_,rfl,rfl,SqT.of v1,rfl,_,hn1.go,.inr ⟨rfl,_,rfl,k t H1 n1 v1 hn1 S1 kp1⟩⟩⟩⟩
   refine .inl ⟨c,_,hrd,hc,λH1 S1 kp1=>?_⟩;have hn1:=hn.lists kp1 λc m=>.inl (by
    obtain⟨ts,e,_⟩:=S.rw false;exact⟨ts,by rw[mem_singleton.mp m];exact e⟩)
   have hc1:=kp1 _ _ (S.noT hc) hc;obtain⟨dx1,hx1⟩:=hn1.ob;refine⟨_,rfl,rfl,_,rfl,fX ?_⟩;refine⟨_,rfl,fld hx1 G.bE G.cM kz ⟨z.gd,rfl,.inl ⟨_,.inl hn1.go⟩,_,rfl,c,_,_,_,rfl,rfl,SqT.of hc1,rfl,_,hn1.go,.inl ⟨.inl nm,rfl,λv hv=>⟨_,rfl,?_⟩,λhv=>⟨_,rfl,?_⟩⟩⟩⟩
   . rw[uS];refine k _ ?_ (S1.kp Kp.one (λc hc=>by rw[mem_singleton.mp hc];exact S1.noD hn1.go) λc hc vs e=>by rw[mem_singleton.mp hc,hn1.go]at e;cases e) λc o nc e=>?_
     . obtain⟨d1,x1⟩:=hn1.ra;obtain⟨d2,x2⟩:=hn1.rb;exact⟨⟨dx1,by rw[aa (ii hx1 hn1.go (by intro z;cases z))];exact hx1⟩,⟨d1,by rw[aa (ii x1 hn1.go (by intro z;cases z))];exact x1⟩,⟨d2,by rw[aa (ii x2 hn1.go (by intro z;cases z))];exact x2⟩,a6⟩
     . rw[aa λz=>nc (by rw[z];exact mem_cons_self)];exact kp1 c o (λm=>nc (mem_cons_of_mem _ m)) e
   . rw[nj]at hv;have hno:aw.contains nm=false:=by
      cases z:aw.contains nm with
     |false=>rfl
     |true=>rw[z]at hv;cases hv
     have ef:aw.filter (λk=>decide (k≠nm))=aw:=by
      rw[List.filter_eq_self];intro x hx;refine decide_eq_true λz=>?_
      rw[z]at hx;rw[contains_eq_mem,decide_eq_false_iff_not]at hno;exact hno hx
     rw[ef]at k;exact k H1 hn1 S1 λc o nc e=>kp1 c o (λm=>nc (mem_cons_of_mem _ m)) e
def AV (CT CR:Addr):Sp:=λvs H Q _=>∃ (h dx st ft:Addr) (s R:Int) (fs:List Str),vs=[.ref h,.ref st,.int s,.int R,.ref ft]/\H h=some (.ins CT dx [])/\H ft=some (.tup (fs.map V.str)) /\
 ∀ (z:TA') (H':Hp),z.h=h->H z.ra=none->H z.rb=none->H z.gd=none->Tn CT CR H' z st ⟨s,if fs.contains "round" then 1 else R,fs.contains "counter"⟩ []->Kp [h] H H'->Q .non H'
def vW (w:World) (CT CR CS:Addr):Sp:=λvs H Q _=>∃ (z:TA') (sa:SA) (p:RP) (ts:List Int) (M:List (PyData × V)) (r:Bool->List (PyData × V)) (A T:Int),vs=[.ref z.h]/\Tn CT CR H z sa.x p ts/\sa.At w CS H M r/\p.Ok/\ts.length < 1000/\(r true).length < 100000 /\
 cC M (r true) (.str "asked")=.int A/\cC M (r true) (.str "taken")=.int T/\(if (A - T) % (p.s * p.R)=0 then Q .non H else
  (∃ c nm wv,cC M (r true) (.tuple [.str "ask",.int (T % p.s)])=.ref c/\H c=some (.tup [.int nm,wv])/\∀ H',Tn CT CR H' z sa.x p (gM ts nm)->sa.At w CS H' M (ba r true (r true++[(.str "taken",.int ((T+1) % (p.s * p.R)))]))->Kp [z.gd,sa.l true] H H'->Q (.ref c) H') \/
  ∃ i,cC M (r true) (.tuple [.str "ask",.int (T % p.s)])=.int i/\∀ t H',H t=none->H' t=some (.tup [.non,.non])->Tn CT CR H' z sa.x p ts->sa.At w CS H' M (ba r true (r true++[(.str "taken",.int ((T+1) % (p.s * p.R)))]))->Kp [sa.l true] H H'->Q (.ref t) H')
def tN (w:World) (CT CR CS F N:Addr):Sp:=λvs H Q E=>∃ (z:TA') (sa:SA) (p:RP) (ts:List Int) (M:List (PyData × V)) (r:Bool->List (PyData × V)) (A T nm:Int),vs=[.ref z.h,.int nm]/\Tn CT CR H z sa.x p ts/\sa.At w CS H M r/\p.Ok /\
 cC M (r true) (.str "answered")=.int A/\cC M (r true) (.str "handed")=.int T/\if ts.contains nm=false then E (.ref N) none H else if (A - T) % (p.s * p.R)=p.s then E (.ref F) none H else Q .non H
def sr (w:World) (CT CR CS F N:Addr):Sp:=λvs H Q E=>∃ (z:TA') (sa:SA) (p:RP) (ts:List Int) (M:List (PyData × V)) (r:Bool->List (PyData × V)) (A T nm:Int) (wv:V),vs=[.ref z.h,.int nm,wv]/\Tn CT CR H z sa.x p ts/\sa.At w CS H M r/\p.Ok/\(r true).length < 99999 /\
 cC M (r true) (.str "answered")=.int A/\cC M (r true) (.str "handed")=.int T/\if ts.contains nm=false then E (.ref N) none H else if (A - T) % (p.s * p.R)=p.s then E (.ref F) none H else
  ∀ t H',H t=none->H' t=some (.tup [.int nm,wv])->Tn CT CR H' z sa.x p (ts.filter λk=>decide (k≠nm))->sa.At w CS H' M (ba r true (r true++nK p "answer" "answered" A (.ref t)))->Kp [z.gd,sa.l true] H H'->Q .non H'
def Ar (CT CR:Addr):Sp:=λvs H Q _=>∃ (z:TA') (st:Addr) (p:RP) (ts:List Int),vs=[.ref z.h]/\Tn CT CR H z st p ts/\ts.length < 64/\∀ (l:Addr) (ns:List Int),H l=none->ns.Perm ts->ns.Pairwise (· <= ·)->Q (.ref l) (upd H l (.lst (ns.map V.int)))
theorem Bc (G:Gs K mg a d):FnOk P w K mg base CX0 4 a.d9 d.d9 ["self","store","size","rounds","faults"] (AV a.bu a.cr):=by
 have c_Ring__init:FnOk P w K mg base CX0 2 _ _ _ _:=wl G;refine G.rL.ok oR (λvs H Q E h=>?_) (λcdv A outer s H vs Q E hr h=>?_)
 . obtain⟨h,dx,st,ft,s,R,fs,rfl,_⟩:=h;rfl
 . obtain⟨h,dx,st,ft,s,R,fs,rfl,hx,hf,k⟩:=h;refine⟨_,((bL (pv 0) (jS G.vt c_Ring__init (hr.mono (by decide)) (by rfl) G.vK G.gc .nil ay ((pv 1)∣(ac∣((iZ (v:=.ref a.jA) (by rfl) G.BV rfl)∣((pv 2)∣((pv 3)∣((pv 4)∣a9))))))) rfl)∪((bL (pv 0) (jS G.vt c_Ring__init (hr.mono (by decide)) (by rfl) G.vK G.gc .nil ay ((pv 1)∣(ac∣((iZ (v:=.ref a.cW) (by rfl) G.tV rfl)∣((pv 2)∣((pv 3)∣((pv 4)∣a9))))))) rfl)∪(@ap _ _ _ (bL (pv 0) qN rfl)))),?_⟩;refine⟨_,rfl,_,rfl,_,rfl,_,rfl,λra da na nda nea=>?_⟩;refine⟨ra,da,st,a.jA,ft,true,"ask","asked","taken",s,R,fs,rfl,a6,G.Cd,?_,λH1 r1 kp1=>?_⟩
   . rw[aa (ae hf na),aa (ae hf nda)];exact hf
   have e1:bG H H1:=λc o e=>kp1 c o (λz=>ae e na (mem_singleton.mp z)) (by rw[aa (ae e na),aa (ae e nda)];exact e)
   clear kp1;refine⟨rfl,_,rfl,h,a.bu,dx,[],rfl,e1 _ _ hx,G.bI,G.iz,by decide,?_⟩;have n1:ra≠h:=λz=>by rw[z,hx]at na;cases na
   have hx1:=e1 _ _ hx;have kp2:Kp [h] H (upd H1 h (.ins a.bu dx (bO "asks" (.ref ra) []))):=λc o n e=>by rw[aa λz=>n (mem_singleton.mpr z)];exact e1 _ _ e
   have hx2:upd H1 h (.ins a.bu dx (bO "asks" (.ref ra) [])) h=some (.ins a.bu dx (bO "asks" (.ref ra) [])):=a6;have r2:=r1.keep (H':=upd H1 h (.ins a.bu dx (bO "asks" (.ref ra) []))) λo e=>by rw[aa n1];exact e
   have hf2:upd H1 h (.ins a.bu dx (bO "asks" (.ref ra) [])) ft=some (.tup (fs.map V.str)):=by
    rw[aa (ii (e1 _ _ hf) hx1 (by intro z;cases z))];exact e1 _ _ hf
   generalize upd H1 h (.ins a.bu dx (bO "asks" (.ref ra) []))=H2 at kp2 hx2 r2 hf2 |-;refine⟨_,rfl,_,rfl,_,rfl,_,rfl,λrb db nb ndb neb=>?_⟩;refine⟨rb,db,st,a.cW,ft,true,"answer","answered","handed",s,R,fs,rfl,a6,G.sK,?_,λH3 r3 kp3=>?_⟩
   . rw[aa (ae hf2 nb),aa (ae hf2 ndb)];exact hf2
   have e3:bG H2 H3:=λc o e=>kp3 c o (λz=>ae e nb (mem_singleton.mp z)) (by rw[aa (ae e nb),aa (ae e ndb)];exact e)
   clear kp3;have nbH:H rb=none:=fu kp2 nb λx m=>by rw[mem_singleton.mp m,hx2];intro z;cases z
   have n3:rb≠h:=λz=>by rw[z,hx2]at nb;cases nb
   refine⟨rfl,_,rfl,h,a.bu,dx,_,rfl,e3 _ _ hx2,G.bI,G.eW,by show 1 < 1000;decide,?_⟩;refine λgd hg=>⟨_,rfl,h,a.bu,dx,_,rfl,(by rw[aa (ae a6 hg)];exact a6),G.bI,G.cY,by show 2 < 1000;decide,?_⟩
   obtain⟨ng,hg3⟩:=up1 hg;have gdH:H gd=none:=fu kp2 (b9 e3 hg3) λx m=>by rw[mem_singleton.mp m,hx2];intro z;cases z
   refine k ⟨h,ra,rb,gd⟩ _ rfl na nbH gdH ⟨⟨dx,a6⟩,(r2.keep λo e=>e3 _ _ e).keep λo e=>?_,r3.keep λo e=>?_,?_⟩ λc o nc ec=>?_
   . rw[aa n1,aa (ae e hg3),aa n1];exact e
   . rw[aa n3,aa (ae e hg3),aa n3];exact e
   . rw[aa ng,a6];rfl
   . have c1:c≠h:=λz=>nc (mem_singleton.mpr z)
     have e4:=e3 _ _ (kp2 c o nc ec);rw[aa c1,aa (ae e4 hg3),aa c1];exact e4
theorem BK (G:Gs K mg a d):FnOk P w K mg base CX0 7 a.ez d.ez ["self"] (vW w a.bu a.cr a.aJ):=by
 have c_Ring_fetch:FnOk P w K mg base CX0 5 _ _ _ _:=vg G;refine G.u8.ok kL (λvs H Q E h=>?_) (λcdv A' outer s' H vs Q E hr h=>?_)
 . obtain⟨z,sa,p,ts,M,r,A,T,rfl,_⟩:=h;rfl
 . obtain⟨z,sa,p,ts,M,r,A,T,rfl,hn,S,hp,htl,hrl,hA,hT,k⟩:=h;have hu:=eZ hr;refine⟨_,((@aK _ _ 1 _ _ _ _ kL.nd rfl (Or.inl rfl) (bf (ak (pv 0) rfl) G.au G.ky c_Ring_fetch (hr.mono (by decide)) G.lW .nil ay) (by rfl) (by exact .inl rfl))∪((aL ((m6 (ao lH (pv 1) cq (av _)) (lE (ao lH (@ax _ _ _ _ _ _ _ ar (pv 1) ac (λ_ _=>rfl)) cq (av _))))).pt (@ap _ _ _ (uc hu (ak (pv 0) rfl) (@ax _ _ _ _ _ _ _ ar (pv 1) ac (λ_ _=>rfl)) eg rfl)) aj)∪((pv 1)⁻¹))),?_⟩;obtain⟨dx,hx⟩:=hn.ob;obtain⟨dr,hra⟩:=hn.ra;refine⟨_,rfl,fld hx G.bI G.iz z0 ⟨z.ra,dr,_,rfl,hra,vP,z.ra,sa,true,"ask","asked","taken",p,M,r,A,T,rfl,⟨dr,hra⟩,S,hp,by decide +kernel,by decide +kernel,by decide +kernel,hrl,hA,hT,?_⟩⟩;by_cases h0:(A - T) % (p.s * p.R)=0
   . rw[if_pos h0]at k |-;exact⟨_,rfl,rfl,_,rfl,cU ⟨_,rfl,k⟩⟩
   rw[if_neg h0]at k |-;rcases k with⟨c,nm,wv,hrd,hc,k⟩|⟨i,hrd,k⟩
   . refine .inl ⟨c,_,hrd,hc,λH1 S1 kp1=>?_⟩;have hn1:=hn.lists kp1 λc m=>.inl (by
      obtain⟨ts,e,_⟩:=S.rw true;exact⟨ts,by rw[mem_singleton.mp m];exact e⟩)
     have hc1:=kp1 _ _ (S.noT hc) hc;obtain⟨dx1,hx1⟩:=hn1.ob;refine⟨_,rfl,rfl,_,rfl,fX ⟨_,rfl,c,_,_,_,rfl,rfl,SqT.of hc1,rfl,rfl,_,rfl,fX ?_⟩⟩;refine⟨_,rfl,fld hx1 G.bI G.cY mX ⟨_,rfl,c,_,_,_,rfl,rfl,SqT.of hc1,rfl,z.gd,_,rfl,Ej.k (k:=.inl nm) hn1.go (Nat.lt_of_lt_of_le (by rw[C4];exact htl) (by decide)),_,rfl,?_⟩⟩;rw[CV];refine k _ ?_ (S1.kp Kp.one (λc hc=>by rw[mem_singleton.mp hc];exact S1.noD hn1.go) λc hc vs e=>by rw[mem_singleton.mp hc,hn1.go]at e;cases e) λc o nc e=>?_
     . obtain⟨d1,x1⟩:=hn1.ra;obtain⟨d2,x2⟩:=hn1.rb;exact⟨⟨dx1,by rw[aa (ii hx1 hn1.go (by intro z;cases z))];exact hx1⟩,⟨d1,by rw[aa (ii x1 hn1.go (by intro z;cases z))];exact x1⟩,⟨d2,by rw[aa (ii x2 hn1.go (by intro z;cases z))];exact x2⟩,a6⟩
     . rw[aa λz=>nc (by rw[z];exact mem_cons_self)];exact kp1 c o (λm=>nc (mem_cons_of_mem _ m)) e
   . refine .inr ⟨i,hrd,λt H1 n1 v1 S1 kp1=>?_⟩;have hn1:=hn.lists kp1 λc m=>.inl (by
      obtain⟨ts,e,_⟩:=S.rw true;exact⟨ts,by rw[mem_singleton.mp m];exact e⟩)
     exact⟨_,rfl,rfl,_,rfl,fX ⟨_,rfl,t,_,_,_,rfl,rfl,SqT.of v1,rfl,rfl,_,rfl,cU ⟨_,rfl,k t H1 n1 v1 hn1 S1 kp1⟩⟩⟩
theorem sZ (G:Gs K mg a d):FnOk P w K mg base (CXv P w) 6 a.bn d.bn ["self","name"] (tN w a.bu a.cr a.aJ a.uM a.gQ):=by
 have c_Ring_is_full:FnOk P w K mg base CX0 4 _ _ _ _:=zc G;refine G.ju.okX (k:=5) iT (λvs H Q E h=>?_) (λcdv A' outer s' H vs Q E hr hR h=>?_)
 . obtain⟨z,sa,p,ts,M,r,A,T,nm,rfl,_⟩:=h;rfl
 . obtain⟨z,sa,p,ts,M,r,A,T,nm,rfl,hn,S,hp,hA,hT,k⟩:=h;have hu:=eZ hr;refine⟨_,((aL (BQ (sw hu (pv 1) (ak (pv 0) rfl))) (@ap _ _ _ (iB hR hr.hd (by rfl) G.wq G.xc_NoTask (ai∣a9))) aj)∪(@ap _ _ _ (aL (bT (bf (ak (pv 0) rfl) G.au G.iS c_Ring_is_full (hr.mono (by decide)) G.jD .nil ay)) (@ap _ _ _ (iB hR hr.hd (by rfl) G.zF G.xc_Full (ai∣a9))) aj))),?_⟩;obtain⟨dx,hx⟩:=hn.ob;obtain⟨dr,hrb⟩:=hn.rb;refine⟨_,rfl,_,rfl,fld hx G.bI G.cY mX ⟨z.gd,_,rfl,Aa.k (k:=.inl nm) hn.go,_,rfl,?_⟩⟩;rw[nj];cases hc:ts.contains nm with
  |false =>
    rw[if_pos hc]at k;exact fX ⟨by show 1 <= sizeLine;decide,k⟩
  |true =>
    rw[if_neg (by rw[hc];decide)]at k;refine cU ?_;refine⟨_,rfl,fld hx G.bI G.eW pU ⟨z.rb,dr,_,rfl,hrb,y4,z.rb,sa,true,"answer","answered","handed",p,M,r,A,T,rfl,⟨dr,hrb⟩,S,hp,by decide +kernel,by decide +kernel,hA,hT,_,rfl,?_⟩⟩;by_cases hf:(A - T) % (p.s * p.R)=p.s
    . rw[if_pos hf]at k;exact yt hf ⟨by show 1 <= sizeLine;decide,k⟩
    . rw[if_neg hf]at k;exact qK hf k
theorem yW (G:Gs K mg a d):FnOk P w K mg base (CXv P w) 8 a.cI d.cI ["self","name","worth"] (sr w a.bu a.cr a.aJ a.uM a.gQ):=by
 have cx_Heart_check_answer:FnOk P w K mg base (CXv P w) 6 _ _ _ _:=sZ G;have c_Ring_lay:FnOk P w K mg base CX0 4 _ _ _ _:=Ci G;refine G.pA.okX (k:=7) nZ (λvs H Q E h=>?_) (λcdv A' outer s' H vs Q E hr hR h=>?_)
 . obtain⟨z,sa,p,ts,M,r,A,T,nm,wv,rfl,_⟩:=h;rfl
 . obtain⟨z,sa,p,ts,M,r,A,T,nm,wv,rfl,hn,S,hp,hrl,hA,hT,k⟩:=h;refine⟨_,((@b6 _ _ _ _ (aB (pv 0) G.bI G.eP cx_Heart_check_answer (hr.mono (by decide)) G.f7 .nil hR.passes ((pv 1)∣a9)) (by rfl))∪((@b6 _ _ _ _ (aB (ak (pv 0) rfl) G.au G.nY c_Ring_lay (hr.mono (by decide)) G.pL .nil ay ((pv 1)∣((pv 2)∣a9))) (by rfl))∪(@ap _ _ _ (@b6 _ _ _ _ (B5 (ak (pv 0) rfl) (pv 1) ⟨rfl,rfl,rfl,rfl⟩) (by rfl))))),?_⟩;obtain⟨dx,hx⟩:=hn.ob;obtain⟨dr,hrb⟩:=hn.rb;refine⟨_,rfl,z.h,dx,_,rfl,hx,vG,_,rfl,z,sa,p,ts,M,r,A,T,nm,rfl,hn,S,hp,hA,hT,?_⟩;by_cases hc:ts.contains nm=false
   . rw[if_pos hc]at k |-;exact k
   rw[if_neg hc]at k |-;by_cases hf:(A - T) % (p.s * p.R)=p.s
   . rw[if_pos hf]at k |-;exact k
   rw[if_neg hf]at k |-;refine⟨_,rfl,fld hx G.bI G.eW pU ⟨z.rb,dr,_,rfl,hrb,BX,_,rfl,_,rfl,z.rb,sa,true,"answer","answered","handed",p,M,r,A,.int nm,wv,rfl,⟨dr,hrb⟩,S,hp,by decide +kernel,by decide +kernel,hrl,hA,λt H1 n1 v1 S1 kp1=>?_⟩⟩;have hn1:=hn.lists kp1 λc m=>.inl (by
    obtain⟨ts,e,_⟩:=S.rw true;exact⟨ts,by rw[mem_singleton.mp m];exact e⟩)
   obtain⟨dx1,hx1⟩:=hn1.ob;have hv:oG (gK ts) (.inl nm)=some (.bl true):=by
    rw[nj];cases y:ts.contains nm with
   |true=>rfl
   |false=>exact absurd y hc
   refine⟨_,rfl,fld hx1 G.bI G.cY mX ⟨z.gd,rfl,.inl ⟨_,.inl hn1.go⟩,_,rfl,_,.inl nm,_,hn1.go,rfl,hv,?_⟩⟩;rw[uS];refine k t _ n1 ?_ ?_ (S1.kp Kp.one (λc hc=>by rw[mem_singleton.mp hc];exact S1.noD hn1.go) λc hc vs e=>by rw[mem_singleton.mp hc,hn1.go]at e;cases e) λc o nc e=>?_
   . rw[aa (ii v1 hn1.go (by intro z;cases z))];exact v1
   . obtain⟨d1,x1⟩:=hn1.ra;obtain⟨d2,x2⟩:=hn1.rb;exact⟨⟨dx1,by rw[aa (ii hx1 hn1.go (by intro z;cases z))];exact hx1⟩,⟨d1,by rw[aa (ii x1 hn1.go (by intro z;cases z))];exact x1⟩,⟨d2,by rw[aa (ii x2 hn1.go (by intro z;cases z))];exact x2⟩,a6⟩
   . rw[aa λz=>nc (by rw[z];exact mem_cons_self)];exact kp1 c o (λm=>nc (mem_cons_of_mem _ m)) e
theorem Az (G:Gs K mg a d):FnOk P w K mg base CX0 1 a.d7 d.d7 ["self"] (Ar a.bu a.cr):=by
 refine G.qx.ok pz (λvs H Q E h=>?_) (λcdv A outer s H vs Q E hr h=>?_)
 . obtain⟨z,st,p,ts,rfl,_⟩:=h;rfl
 . obtain⟨z,st,p,ts,rfl,hn,hl,k⟩:=h;refine⟨_,((aI (mf rfl) (by rfl) G.mH kU ((ak (pv 0) rfl)∣a9))⁻¹),?_⟩;obtain⟨dx,hx⟩:=hn.ob;exact⟨_,rfl,fld hx G.bI G.cY mX ⟨z.gd,_,ts,rfl,hn.go,by unfold gK;rw[map_map];rfl,hl,λp ns hp h1 h2=>k p ns hp h1 h2⟩⟩
def Bt (w:World) (C:Addr):Sp:=λvs H Q _=>∃ x dx,vs=[.ref x]/\H x=some (.ins C dx []) /\
 ∀ (sa:SA) (H':Hp),sa.x=x->(∀ c,sa.own c->c≠x->H c=none)->StT w C H' sa Mem.zero (λ_=>[])->Kp [x] H H'->Q .non H'
def xV (w:World) (C:Addr):Sp:=λvs H Q _=>∃ (sa:SA) (m:Mem) (rs:Bool->List Wr) (b:Bool) (cv wv:V) (x:Wr),vs=[.ref sa.x,.int (sdI b),cv,wv]/\StT w C H sa m rs/\(rs b).length < 99990/\mL H x.key cv/\DV H x.dat wv/\x.Ok /\
 ∀ H',StT w C H' sa m (ba rs b (rs b++[x]))->Kp [sa.l b] H H'->Q .non H'
def zw (w:World) (C:Addr):Sp:=λvs H Q _=>∃ (sa:SA) (m:Mem) (rs:Bool->List Wr) (b:Bool) (x:Wr) (rest:List Wr),vs=[.ref sa.x,.int (sdI b)]/\StT w C H sa m rs/\rs b=x :: rest /\
 ∀ H',StT w C H' sa (m.put x) (ba rs b rest)->Kp [sa.l b,sa.hd] H H'->Q .non H'
def wrD (x:Wr):PyData:=.tuple [x.key,x.dat]
def zN (w:World) (C:Addr):Sp:=λvs H Q _=>∃ (sa:SA) (m:Mem) (rs:Bool->List Wr) (b:Bool),vs=[.ref sa.x,.int (sdI b)]/\StT w C H sa m rs /\
 ∀ (p:Addr) (ts:List V),H p=none->DVs H ((rs b).map wrD) ts->Q (.ref p) (upd H p (.lst ts))
theorem vq {H:Hp}:∀ {row:List Wr}{es:List (PyData × V)},Paired (WrR H) row es->Paired (RD H) es (row.map wrD)
|_,_,.nil=>.nil
|x :: _,_,.cons ⟨_,hk,hd⟩ t=>.cons ⟨x.dat,by rw[hk];rfl,hd⟩ (vq t)
theorem GK {w:World}{C:Addr}{vs:List V}{H:Hp}{Q:VK}{E:XK}(h:Bt w C vs H Q E):xJ w C vs H Q E:=by
 obtain⟨x,dx,rfl,hx,k⟩:=h;refine⟨x,dx,rfl,hx,λhd rl l H' f1 f2 f3 S kp=>k ⟨x,hd,rl,l⟩ H' rfl (λc hc n=>?_) ⟨[],_,S,MemR.zero,λ_=>.nil⟩ kp⟩;rcases hc with y|y|y|y|y
 . exact absurd y n
 . rw[y];exact f1
 . rw[y];exact f2
 . rw[y];exact f3 _
 . rw[y];exact f3 _
theorem yU {w:World}{C:Addr}{vs:List V}{H:Hp}{Q:VK}{E:XK}(h:xV w C vs H Q E):vn w C vs H Q E:=by
 obtain⟨sa,m,rs,b,cv,wv,x,rfl,⟨M,r,S,R,P⟩,hl,hk,hd,ho,k⟩:=h;have hl':=aX (P b);refine⟨sa.x,sa.hd,sa.rl,sa.l,M,r,b,cv,wv,x.key,rfl,S,by omega,hk,λH' S' kp=>k H' ?_ kp⟩;have ht:∀ c vs,H c=some (.tup vs)->H' c=some (.tup vs):=λc vs e=>kp c _ (S.noT e) e
 exact StT.grow R P S' ht (.cons ⟨ho,rfl,DV.keep ht _ _ x.dat_kd hd⟩ .nil)
theorem drainT {w:World}{C:Addr}{vs:List V}{H:Hp}{Q:VK}{E:XK}(h:zw w C vs H Q E):vV w C vs H Q E:=by
 obtain⟨sa,m,rs,b,x,rest,rfl,⟨M,r,S,R,P⟩,hb,k⟩:=h;have pb:=P b;rw[hb]at pb;cases hr:r b with
|nil=>rw[hr]at pb;cases pb
|cons q es =>
  rw[hr]at pb;cases pb with
 |cons hx pt =>
   refine⟨sa.x,sa.hd,sa.rl,sa.l,M,r,b,q.1,q.2,es,rfl,S,hr,lt_of_le_of_lt (StT.small S R) (by decide),λH' S' kp=>k H' ⟨_,_,S',?_,λc=>?_⟩ kp⟩
   all_goals
    have ht:∀ c vs,H c=some (.tup vs)->H' c=some (.tup vs):=λc vs e=>kp c _ (λmm=>by
     rcases mem_cons.mp mm with y|y
     . exact S.noT (b:=b) e (mem_singleton.mpr y)
     . obtain⟨ee,e'⟩:=S.me.there;rw[mem_singleton.mp y,e']at e;cases e) e
   . exact(R.put hx).keep ht
   . by_cases e:c=b
     . subst e;rw[aD,aD];exact Paired.mapP pt λ_ _ q=>q.keep ht
     . rw[bF e,bF e];exact Paired.mapP (P c) λ_ _ q=>q.keep ht
theorem yV {w:World}{C:Addr}{vs:List V}{H:Hp}{Q:VK}{E:XK}(h:zN w C vs H Q E):vU w C vs H Q E:=by
 obtain⟨sa,m,rs,b,rfl,⟨M,r,S,R,P⟩,k⟩:=h;exact⟨sa.x,sa.hd,sa.rl,sa.l,M,r,b,rfl,S,λp ts hp pr=>k p ts hp (vf pr (vq (P b)))⟩
def CM (w:World) (CH CR CS F N:Addr):Sp:=λvs H Q E=>∃ (z:HA) (sa:SA) (p:RP) (n:Nat) (aw:List Int) (m:Mem) (rs:Bool->List Wr) (wt:Int),vs=[.ref z.h,.int wt]/\Hn CH CR H z sa.x p n aw/\StT w CS H sa m rs/\p.Ok/\n <= 9/\aw.length < 1000/\(rs false).length < 99990 /\
 if az p m (rs false) .asked .taken=p.s then E (.ref F) none H else match bw n aw with
 |none=>E (.ref N) none H
 |some nm=>∀ H',Hn CH CR H' z sa.x p n (aw++[nm])->StT w CS H' sa m (ba rs false (rs false++lZ p m (rs false) false .asked nm wt))->Kp [z.gd,sa.l false] H H'->Q (.int nm) H'
def ui (w:World) (CH CR CS:Addr):Sp:=λvs H Q _=>∃ (z:HA) (sa:SA) (p:RP) (n:Int) (aw:List Int) (m:Mem) (rs:Bool->List Wr),vs=[.ref z.h]/\Hn CH CR H z sa.x p n aw/\StT w CS H sa m rs/\p.Ok/\(rs false).length < 99990 /\
 (if az p m (rs false) .answered .handed=0 then Q .non H else match rdP m (rs false) true (rdC m (rs false) .handed % p.s) with
 |some nw=>∀ c H',H' c=some (.tup [.int nw.1,.int nw.2])->Hn CH CR H' z sa.x p n (aw.filter λk=>decide (k≠nw.1))->StT w CS H' sa m (ba rs false (rs false++[dl p m (rs false) .handed]))->Kp [z.gd,sa.l false] H H'->Q (.ref c) H'
 |none=>∀ c H',H' c=some (.tup [.non,.non])->Hn CH CR H' z sa.x p n aw->StT w CS H' sa m (ba rs false (rs false++[dl p m (rs false) .handed]))->Kp [z.gd,sa.l false] H H'->Q (.ref c) H')
theorem HW {w:World}{CH CR CS F N:Addr}{vs:List V}{H:Hp}{Q:VK}{E:XK}(h:CM w CH CR CS F N vs H Q E):BU w CH CR CS F N vs H Q E:=by
 obtain⟨z,sa,p,n,aw,m,rs,wt,rfl,hn,⟨M,r,S,R,P⟩,hp,n9,hal,hrl,k⟩:=h;have hl:=aX (P false);refine⟨z,sa,p,n,aw,M,r,.int wt,rdC m (rs false) .asked,rdC m (rs false) .taken,rfl,hn,S,hp,n9,hal,by omega,cD R (P false) .asked,cD R (P false) .taken,?_⟩;unfold az at k;by_cases hc:(rdC m (rs false) .asked - rdC m (rs false) .taken) % (p.s * p.R)=p.s
 . rw[if_pos hc]at k |-;exact k
 . rw[if_neg hc]at k |-;cases hle:bw n aw with
  |none=>rw[hle]at k;exact k
  |some nm =>
    rw[hle]at k;intro t H' n2 v2 hn2 S2 kp2;have ht:∀ c vs,H c=some (.tup vs)->H' c=some (.tup vs):=λc vs e=>kp2 c _ (λmm=>by
     rcases mem_cons.mp mm with y|y
     . rw[y,hn.go]at e;cases e
     . exact S.noT e y) e
    exact k H' hn2 (StT.grow R P S2 ht (vC hp (by have:=mW hle;omega) v2)) kp2
theorem Ba {w:World}{CH CR CS:Addr}{vs:List V}{H:Hp}{Q:VK}{E:XK}(h:ui w CH CR CS vs H Q E):qg w CH CR CS vs H Q E:=by
 obtain⟨z,sa,p,n,aw,m,rs,rfl,hn,⟨M,r,S,R,P⟩,hp,hrl,k⟩:=h;have hl:=aX (P false);refine⟨z,sa,p,n,aw,M,r,rdC m (rs false) .answered,rdC m (rs false) .handed,rfl,hn,S,hp,by omega,cD R (P false) .answered,cD R (P false) .handed,?_⟩;unfold az at k;by_cases hc:(rdC m (rs false) .answered - rdC m (rs false) .handed) % (p.s * p.R)=0
 . rw[if_pos hc]at k |-;exact k
 . rw[if_neg hc]at k |-;have ht:∀ {H':Hp} {xs:List Addr},(∀ x∈xs,x=z.gd\/x=sa.l false)->Kp xs H H'->∀ c vs,H c=some (.tup vs)->H' c=some (.tup vs):=λhx kp c vs e=>kp c _ (λmm=>by
    rcases hx c mm with y|y
    . rw[y,hn.go]at e;cases e
    . exact S.noT (b:=false) e (mem_singleton.mpr y)) e
   rcases uT R (P false) true (rdC m (rs false) .handed % p.s) with⟨e1,e2⟩|⟨nm,wt,c,e1,e2,hc'⟩
   . rw[e1]at k;refine .inr ⟨0,e2,λt H' n1 v1 hn1 S1 kp1=>k t H' v1 hn1 (StT.grow R P S1 (ht (λx mx=>.inr (mem_singleton.mp mx)) kp1) (.cons ⟨trivial,rfl,rfl⟩ .nil)) (kp1.mono λc mc=>mem_cons_of_mem _ mc)⟩
   . rw[e1]at k;refine .inl ⟨c,nm,.int wt,e2,hc',λH' hn1 S1 kp1=>?_⟩;have ht':=ht (λx mx=>by
      rcases mem_cons.mp mx with y|y
      . exact .inl y
      . exact .inr (mem_singleton.mp y)) kp1
     exact k c H' (ht' _ _ hc') hn1 (StT.grow R P S1 ht' (.cons ⟨trivial,rfl,rfl⟩ .nil)) kp1
def B7 (w:World) (CT CR CS:Addr):Sp:=λvs H Q _=>∃ (z:TA') (sa:SA) (p:RP) (ts:List Int) (m:Mem) (rs:Bool->List Wr),vs=[.ref z.h]/\Tn CT CR H z sa.x p ts/\StT w CS H sa m rs/\p.Ok/\ts.length < 1000/\(rs true).length < 99990 /\
 (if az p m (rs true) .asked .taken=0 then Q .non H else match rdP m (rs true) false (rdC m (rs true) .taken % p.s) with
 |some nw=>∀ c H',H' c=some (.tup [.int nw.1,.int nw.2])->Tn CT CR H' z sa.x p (gM ts nw.1)->StT w CS H' sa m (ba rs true (rs true++[dl p m (rs true) .taken]))->Kp [z.gd,sa.l true] H H'->Q (.ref c) H'
 |none=>∀ c H',H' c=some (.tup [.non,.non])->Tn CT CR H' z sa.x p ts->StT w CS H' sa m (ba rs true (rs true++[dl p m (rs true) .taken]))->Kp [z.gd,sa.l true] H H'->Q (.ref c) H')
def wO (w:World) (CT CR CS F N:Addr):Sp:=λvs H Q E=>∃ (z:TA') (sa:SA) (p:RP) (ts:List Int) (m:Mem) (rs:Bool->List Wr) (nm wt:Int),vs=[.ref z.h,.int nm,.int wt]/\Tn CT CR H z sa.x p ts/\StT w CS H sa m rs/\p.Ok/\(rs true).length < 99990/\(∀ x∈ts,0 <= x/\x < 9) /\
 if ts.contains nm=false then E (.ref N) none H else if az p m (rs true) .answered .handed=p.s then E (.ref F) none H else
  ∀ H',Tn CT CR H' z sa.x p (ts.filter λk=>decide (k≠nm))->StT w CS H' sa m (ba rs true (rs true++lZ p m (rs true) true .answered nm wt))->Kp [z.gd,sa.l true] H H'->Q .non H'
theorem Gv {w:World}{CT CR CS:Addr}{vs:List V}{H:Hp}{Q:VK}{E:XK}(h:B7 w CT CR CS vs H Q E):vW w CT CR CS vs H Q E:=by
 obtain⟨z,sa,p,ts,m,rs,rfl,hn,⟨M,r,S,R,P⟩,hp,htl,hrl,k⟩:=h;have hl:=aX (P true);refine⟨z,sa,p,ts,M,r,rdC m (rs true) .asked,rdC m (rs true) .taken,rfl,hn,S,hp,htl,by omega,cD R (P true) .asked,cD R (P true) .taken,?_⟩;unfold az at k;by_cases hc:(rdC m (rs true) .asked - rdC m (rs true) .taken) % (p.s * p.R)=0
 . rw[if_pos hc]at k |-;exact k
 . rw[if_neg hc]at k |-;have ht:∀ {H':Hp} {xs:List Addr},(∀ x∈xs,x=z.gd\/x=sa.l true)->Kp xs H H'->∀ c vs,H c=some (.tup vs)->H' c=some (.tup vs):=λhx kp c vs e=>kp c _ (λmm=>by
    rcases hx c mm with y|y
    . rw[y,hn.go]at e;cases e
    . exact S.noT (b:=true) e (mem_singleton.mpr y)) e
   rcases uT R (P true) false (rdC m (rs true) .taken % p.s) with⟨e1,e2⟩|⟨nm,wt,c,e1,e2,hc'⟩
   . rw[e1]at k;refine .inr ⟨0,e2,λt H' n1 v1 hn1 S1 kp1=>k t H' v1 hn1 (StT.grow R P S1 (ht (λx mx=>.inr (mem_singleton.mp mx)) kp1) (.cons ⟨trivial,rfl,rfl⟩ .nil)) (kp1.mono λc mc=>mem_cons_of_mem _ mc)⟩
   . rw[e1]at k;refine .inl ⟨c,nm,.int wt,e2,hc',λH' hn1 S1 kp1=>?_⟩;have ht':=ht (λx mx=>by
      rcases mem_cons.mp mx with y|y
      . exact .inl y
      . exact .inr (mem_singleton.mp y)) kp1
     exact k c H' (ht' _ _ hc') hn1 (StT.grow R P S1 ht' (.cons ⟨trivial,rfl,rfl⟩ .nil)) kp1
theorem Dx {w:World}{CT CR CS F N:Addr}{vs:List V}{H:Hp}{Q:VK}{E:XK}(h:wO w CT CR CS F N vs H Q E):sr w CT CR CS F N vs H Q E:=by
 obtain⟨z,sa,p,ts,m,rs,nm,wt,rfl,hn,⟨M,r,S,R,P⟩,hp,hrl,hts,k⟩:=h;have hl:=aX (P true);refine⟨z,sa,p,ts,M,r,rdC m (rs true) .answered,rdC m (rs true) .handed,nm,.int wt,rfl,hn,S,hp,by omega,cD R (P true) .answered,cD R (P true) .handed,?_⟩;unfold az at k;by_cases h0:ts.contains nm=false
 . rw[if_pos h0]at k |-;exact k
 rw[if_neg h0]at k |-;by_cases hc:(rdC m (rs true) .answered - rdC m (rs true) .handed) % (p.s * p.R)=p.s
 . rw[if_pos hc]at k |-;exact k
 . rw[if_neg hc]at k |-;intro t H' n2 v2 hn2 S2 kp2;have ht:∀ c vs,H c=some (.tup vs)->H' c=some (.tup vs):=λc vs e=>kp2 c _ (λmm=>by
    rcases mem_cons.mp mm with y|y
    . rw[y,hn.go]at e;cases e
    . exact S.noT e y) e
   exact k H' hn2 (StT.grow R P S2 ht (vC hp (hts nm (by
    cases y:ts.contains nm with
   |false=>exact absurd y h0
   |true=>rw[contains_eq_mem]at y;exact of_decide_eq_true y)) v2)) kp2
def Bm:Sp:=λvs H Q _=>∃ i:Int,vs=[.int i]/\Q (.bl true) H
def y9:Sp:=λvs H Q _=>∃ (i:Int) (k:Str),vs=[.int i,.str k]/\∀ H',bG H H'->Q (.bl (gj i k)) H'
def zJ:Sp:=λvs H Q _=>∃ (t:Addr) (x:Dd),vs=[.ref t]/\H t=some (.tup x.vs)/\x.Ok/\∀ H',bG H H'->Q (.bl true) H'
def Dk:Sp:=λvs H Q _=>∃ (t:Addr) (x:Dd),vs=[.ref t]/\H t=some (.tup x.vs)/\∀ H',bG H H'->Q (.int (sdI x.side)) H'
theorem AS (G:Gs K mg a d):FnOk P w K mg base CX0 1 a.i6 d.i6 ["value"] Bm:=by
 refine G.pW.ok uP (λvs H Q E h=>?_) (λcdv A' outer s' H vs Q E hr h=>?_)
 . obtain⟨i,rfl,_⟩:=h;rfl
 . obtain⟨i,rfl,k⟩:=h;refine⟨_,((sU (aI b7 (by rfl) G.aP aH ((pv 0)∣((cR (v:=.ty "int") (by rfl) G.uW nB rfl)∣a9))) (vD (C1 (aI b7 (by rfl) G.aP aH ((pv 0)∣((cR (v:=.ty "bool") (by rfl) G.vE qS rfl)∣a9))))))⁻¹),?_⟩;exact⟨_,rfl,_,_,.type "int",true,rfl,.int i,Gp,_,rfl,fX ⟨_,rfl,_,_,.type "int",false,rfl,.int i,G0,_,rfl,k⟩⟩
theorem Dh (G:Gs K mg a d):FnOk P w K mg base CX0 2 a.jJ d.jJ ["value","kind"] y9:=by
 have c_is_whole:FnOk P w K mg base CX0 1 _ _ _ _:=AS G;refine G.t9.ok xp (λvs H Q E h=>?_) (λcdv A' outer s' H vs Q E hr h=>?_)
 . obtain⟨i,k,rfl,_⟩:=h;rfl
 . obtain⟨i,kd,rfl,k⟩:=h;refine⟨_,((aL (fT (bT (aS c_is_whole (hr.mono (by decide)) (by rfl) G.wG G.pW.kp G.wH .nil ay ((pv 0)∣a9)))) (eg⁻¹) aj)∪((aL (ao cm (pv 1) ai (av _)) ((Bx FH FH (Ff C3 (wj (by rfl) G.lU)) (pv 0) (wj (by rfl) G.lU))⁻¹) aj)∪((aL (ao cm (pv 1) ai (av _)) ((ci eR (pv 0) (@aO _ _ _ _ _ (ac∣(ac∣a9))) (by with_unfolding_all rfl))⁻¹) aj)∪(eg⁻¹)))),?_⟩;refine⟨_,rfl,i,rfl,_,rfl,cU ?_⟩;refine⟨_,rfl,rfl,_,rfl,?_⟩;by_cases h1:kd="worth"
   . refine ic (decide_eq_true (by rw[h1])) ?_;have e:gj i kd=(decide (-1000000000 <= i) && decide (i <= 1000000000)):=by unfold gj;rw[if_pos h1]
     refine⟨_,rfl,_,rfl,_,_,rfl,rfl,_,rfl,?_⟩;by_cases hb:-1000000000 <= i
     . refine ic (decide_eq_true hb) ⟨_,_,rfl,rfl,?_⟩;rw[decide_eq_true hb,Bool.true_and]at e;show Q (.bl (decide (i <= 1000000000))) H;rw[<-e];exact k _ λ_ _ z=>z
     . refine cf (by rw[decide_eq_true_eq];exact hb) ?_;rw[decide_eq_false hb,Bool.false_and]at e;show Q (.bl false) H;rw[<-e];exact k _ λ_ _ z=>z
   . refine cf (by rw[decide_eq_true_eq];exact sne h1) ?_;refine⟨_,rfl,rfl,_,rfl,?_⟩;by_cases h2:kd="side"
     . refine ic (decide_eq_true (by rw[h2])) ?_;have e:gj i kd=(decide (i=0) || decide (i=1)):=by unfold gj;rw[if_neg h1,if_pos h2]
       refine⟨_,rfl,l2,λt ht=>⟨t,_,rfl,.inr (SqT.of a6),rfl,rfl,?_⟩⟩;simp only[false_eq_true,if_false];have e2:inV (.int i) [V.int 0,V.int 1]=gj i kd:=by
        have:=lA i [0,1];show inV (.int i) (([0,1]:List Int).map V.int)=_;rw[this,e,contains_eq_mem,Bool.eq_iff_iff,decide_eq_true_eq,Bool.or_eq_true,decide_eq_true_eq,decide_eq_true_eq];simp
       rw[e2];exact k _ (ag ht)
     . refine cf (by rw[decide_eq_true_eq];exact sne h2) ?_;have e:gj i kd=true:=by unfold gj;rw[if_neg h1,if_neg h2]
       show Q (.bl true) H;rw[<-e];exact k _ λ_ _ z=>z
theorem AY (x:Dd):∃ b,PyProof.Rows.KTD.datumAt x.word [("ask",a.fJ),("collect",a.fm),("take",a.fB),("answer",a.fA),("bell",a.fU),("lie",a.fF),("look",a.fV),("drain",a.fW)]=some b/\(∀ (G:Gs K mg a d) (H:Hp),SqT K H b (x.ks.map V.str)):=by
 cases x
 . exact⟨_,rfl,λG=>G.yZ⟩
 . exact⟨_,rfl,λG=>G.yT⟩
 . exact⟨_,rfl,λG=>G.yB⟩
 . exact⟨_,rfl,λG=>G.zK⟩
 . exact⟨_,rfl,λG=>G.y8⟩
 . exact⟨_,rfl,λG=>G.zC⟩
 . exact⟨_,rfl,λG=>G.zV⟩
 . exact⟨_,rfl,λG=>G.zv⟩
theorem yf (G:Gs K mg a d):FnOk P w K mg base CX0 3 a.jH d.jH ["some"] zJ:=by
 have c_is_part:FnOk P w K mg base CX0 2 _ _ _ _:=Dh G;refine G.sN.ok q9 (λvs H Q E h=>?_) (λcdv A' outer s' H vs Q E hr h=>?_)
 . obtain⟨t,x,rfl,_⟩:=h;rfl
 . obtain⟨t,x,rfl,ht,hx,k⟩:=h;have hu:=eZ hr;refine⟨_,((aL ((uH (fT (bT (aI b7 (by rfl) G.aP aH ((pv 0)∣((cR (v:=.ty "tuple") (by rfl) G.dP cn rfl)∣a9))))) (uH (ao cm (aI bq (by rfl) G.lc gR ((pv 0)∣a9)) ac (av _)) (qe (fT (bT (aI b7 (by rfl) G.aP aH ((@ax _ _ _ _ _ _ _ ar (pv 0) ac (λ_ _=>rfl))∣((cR (v:=.ty "str") (by rfl) G.Ae vI rfl)∣a9))))))))).pt (eg⁻¹) aj)∪((@aK _ _ 1 _ _ _ _ q9.nd rfl (Or.inl rfl) (zL (by rfl) G.E8 G.Ee (@ax _ _ _ _ _ _ _ ar (pv 0) ac (λ_ _=>rfl)) ⟨rfl,rfl,rfl,rfl⟩) (by rfl) (by exact .inl rfl))∪((aL ((uH (ao sV (pv 1) cq (av _)) (qe (ao rQ (aI bq (by rfl) G.lc gR ((pv 0)∣a9)) (@aN _ _ _ _ _ _ _ _ o8 (aI bq (by rfl) G.lc gR ((pv 1)∣a9)) ac) (av _))))).pt (eg⁻¹) aj)∪((aI (Bz rfl) (by rfl) G.G6 F5 ((by exact vM (x:="value") (x2:="kind") (g:=Ei K 2 (lK (jg 0) (lK (jg 1) Eh))) (tc:=λ_ H Q=>Q true H) (te:=EN y9 [] E0 (tJ (pc 0) (tJ (pc 1) CB))) (caps:=[]) (js:=[]) rfl (lX rfl rfl (by decide +kernel) (by decide +kernel) rfl trivial rfl rfl) (λC s₃ H₃ pins ex E'=>by exact Cs rfl (show (["value","kind"]:List Str).Nodup from by decide +kernel) rfl rfl (.inl (lookup_relabel_local rfl)) (.inl (lookup_relabel_local rfl)) rfl rfl) trivial (EB (by rfl) G.GJ ((mK C8 (pv 0) (nk ac) uI)∣((pv 1)∣a9))) (λC s₃ H₃ pins ex E'=>by exact mV) (λC s₃ H₃ pins ex E'=>by exact(aS c_is_part (hr.mono (by decide)) (by rfl) G.xY G.t9.kp G.A7 .nil ay ((pv 0)∣((pv 1)∣a9)))))∣a9))⁻¹)))),?_⟩;obtain⟨b,hb,hs⟩:=AY (K:=K) (mg:=mg) (d:=d) (a:=a) x;have hs:=hs G;obtain⟨l1,l2'⟩:=x.len;have ht':H t=some (.tup (.str x.word :: x.args.map V.int)):=by rw[<-x.vs_eq];exact ht
   refine⟨_,rfl,_,_,.type "tuple",true,rfl,.tup ht',Cu,_,rfl,cU ?_⟩;refine⟨_,rfl,t,_,rfl,.inr (SqT.of ht'),rfl,_,rfl,cf (by rw[decide_eq_true_eq];exact λy=>by have:=fh y;rw[length_cons]at this;omega) ?_⟩;refine⟨_,rfl,t,_,_,_,rfl,rfl,SqT.of ht',aq,_,_,.type "str",true,rfl,.str _,Gy,_,rfl,cU ?_⟩;refine⟨_,rfl,t,_,_,_,rfl,rfl,SqT.of ht',aq,x.word,rfl,?_⟩;rw[hb];refine⟨_,rfl,rfl,_,rfl,cU ?_⟩;refine⟨_,rfl,t,_,rfl,.inr (SqT.of ht'),_,rfl,b,_,rfl,.inr (hs H),_,_,rfl,rfl,rfl,_,rfl,cf ?_ ?_⟩
   . rw[not_eq_true',decide_eq_false_iff_not,Decidable.not_not];refine congrArg V.int ?_;rw[length_cons,length_map,length_map,l1];rfl
   refine⟨_,rfl,_,rfl,t,_,rfl,SqT.of ht',?_,λp1 hp1=>⟨_,rfl,true,p1,b,_,_,rfl,SqT.of a6,hs _,?_⟩⟩
   . rintro⟨y,_⟩;rw[show (some (1:Int))=some ((1:Nat):Int) from rfl,HT.sIx_nat,length_cons]at y;omega
   have e1:=ag (o:=.tup (tf (V.str x.word :: x.args.map V.int) (some 1) none)) hp1;rw[show (some (1:Int))=some ((1:Nat):Int) from rfl,qc,show List.drop 1 (V.str x.word :: x.args.map V.int)=x.args.map V.int from rfl]at e1 |-;have v1:upd H p1 (.tup (x.args.map V.int)) p1=some (.tup (x.args.map V.int)):=a6;intro D hD;generalize upd H p1 (.tup (x.args.map V.int))=H1 at e1 v1 hD |-;refine⟨λi mm ys H'=>i <= x.args.length/\mm=x.args.length - i/\ys=(replicate i true).map V.bl/\H' D=some (.lst ys)/\∀ c o,c≠D->H1 c=some o->H' c=some o,⟨_,zero_le _,rfl,rfl,a6,λc o n e=>by rw[aa n];exact e⟩,?_⟩;rintro i mm ys H2 ⟨hi,rfl,rfl,hD2,k2⟩;have e2:bG H1 H2:=λc o e=>k2 c o (λy=>by rw[y,hD]at e;cases e) e
   refine⟨hD2,Nat.lt_of_lt_of_le (show _ < 1000 by rw[length_map,length_replicate];omega) (by decide),?_⟩;by_cases hii:i=x.args.length
   . refine .inl ⟨⟨_,SqT.of (e2 _ _ v1),by rw[length_map];omega⟩,D,replicate i true,rfl,SqL.of hD2,?_⟩;have:(replicate i true).all id=true:=by
      rw[all_eq_true];intro y hy;rw[(List.mem_replicate.mp hy).2];rfl
     rw[this];exact k _ (e1.trans e2)
   . have hlt:i < x.args.length:=by omega
     have hlt2:i < x.ks.length:=by omega
     refine .inr ⟨⟨_,_,_,_,SqT.of (e2 _ _ v1),hs _,by rw[getElem?_map,getElem?_eq_getElem hlt];rfl,by rw[getElem?_map,getElem?_eq_getElem hlt2];rfl⟩,?_⟩;rintro v H3 ⟨T,xv,yv,hT,rfl,rfl,hxv,hyv⟩ v0 v1';have hxv:=hxv _ (SqT.of (e2 _ _ v1));have hyv:=hyv _ (hs _);rw[getElem?_map,getElem?_eq_getElem hlt]at hxv;rw[getElem?_map,getElem?_eq_getElem hlt2]at hyv;cases hxv;cases hyv;refine⟨T,_,rfl,SqT.of a6,rfl,_,_,rfl,_,_,rfl,rfl,_,_,rfl,?_⟩;refine fX ⟨_,rfl,_,rfl,_,_,rfl,λH4 e4=>?_⟩;have hp:=Dd.part hx i _ _ (getElem?_eq_getElem hlt) (getElem?_eq_getElem hlt2);rw[hp];have nD:D≠T:=λy=>by rw[<-y,hD2]at hT;cases hT
     refine⟨e4 _ _ (by rw[aa nD];exact hD2),x.args.length - (i+1),by omega,by omega,rfl,by rw[List.replicate_succ',map_append];rfl,a6,λc o n e=>?_⟩;rw[aa n];exact e4 _ _ (ag hT _ _ (k2 c o n e))
theorem Dn (G:Gs K mg a d):FnOk P w K mg base CX0 1 a.jK d.jK ["some"] Dk:=by
 refine G.sv.ok wz (λvs H Q E h=>?_) (λcdv A' outer s' H vs Q E hr h=>?_)
 . obtain⟨t,x,rfl,_⟩:=h;rfl
 . obtain⟨t,x,rfl,ht,k⟩:=h;have hu:=eZ hr;refine⟨_,((aL (ao eR (@ax _ _ _ _ _ _ _ ar (pv 0) ac (λ_ _=>rfl)) (@aO _ _ _ _ _ (ai∣(ai∣a9))) (by with_unfolding_all rfl)) (ac⁻¹) aj)∪((aL (ao eR (@ax _ _ _ _ _ _ _ ar (pv 0) ac (λ_ _=>rfl)) (@aO _ _ _ _ _ (ai∣(ai∣a9))) (by with_unfolding_all rfl)) (ac⁻¹) aj)∪((@ax _ _ _ _ _ _ _ ar (pv 0) ac (λ_ _=>rfl))⁻¹))),?_⟩;have ht':H t=some (.tup (.str x.word :: x.args.map V.int)):=by rw[<-x.vs_eq];exact ht
   refine⟨_,rfl,t,_,_,_,rfl,rfl,SqT.of ht',aq,l2,λt1 h1=>⟨t1,_,rfl,.inr (SqT.of a6),rfl,rfl,_,rfl,?_⟩⟩;have e1:=ag (o:=.tup [V.str "ask",V.str "collect"]) h1;generalize upd H t1 (.tup [V.str "ask",V.str "collect"])=H1 at e1 |-;rcases x.grp with⟨c1,hsd⟩|⟨c1,hsd⟩|⟨c1,hsd⟩
   . refine ic ?_ ?_
     . rcases c1 with y|y<;>(rw[y];decide +kernel)
     . rw[hsd]at k;exact k H1 e1
   . refine cf ?_ ?_
     . rcases c1 with y|y<;>(rw[y];decide +kernel)
     refine⟨_,rfl,t,_,_,_,rfl,rfl,SqT.of (e1 _ _ ht'),aq,l2,λt2 h2=>⟨t2,_,rfl,.inr (SqT.of a6),rfl,rfl,_,rfl,ic ?_ ?_⟩⟩
     . rcases c1 with y|y<;>(rw[y];decide +kernel)
     . rw[hsd]at k;exact k _ (e1.trans (ag h2))
   . refine cf ?_ ?_
     . rcases c1 with y|y|y|y<;>(rw[y];decide +kernel)
     refine⟨_,rfl,t,_,_,_,rfl,rfl,SqT.of (e1 _ _ ht'),aq,l2,λt2 h2=>⟨t2,_,rfl,.inr (SqT.of a6),rfl,rfl,_,rfl,cf ?_ ?_⟩⟩
     . rcases c1 with y|y|y|y<;>(rw[y];decide +kernel)
     rw[hsd]at ht';exact⟨_,rfl,t,_,_,_,rfl,rfl,SqT.of ((e1.trans (ag h2)) _ _ ht'),rfl,k _ (e1.trans (ag h2))⟩
def x5 (w:World) (CH CR CS F N:Addr):Sp:=λvs H Q E=>∃ (z:HA) (sa:SA) (p:RP) (n:Nat) (aw:List Int) (m:Mem) (rs:Bool->List Wr),vs=[.ref z.h]/\Hn CH CR H z sa.x p n aw/\StT w CS H sa m rs/\p.Ok/\n <= 9 /\
 if az p m (rs false) .asked .taken=p.s then E (.ref F) none H else match bw n aw with|none=>E (.ref N) none H|some _=>Q .non H
def xq (w:World) (CT CR CS F N:Addr):Sp:=λvs H Q E=>∃ (z:TA') (sa:SA) (p:RP) (ts:List Int) (m:Mem) (rs:Bool->List Wr) (nm:Int),vs=[.ref z.h,.int nm]/\Tn CT CR H z sa.x p ts/\StT w CS H sa m rs/\p.Ok /\
 if ts.contains nm=false then E (.ref N) none H else if az p m (rs true) .answered .handed=p.s then E (.ref F) none H else Q .non H
theorem D1 {w:World}{CH CR CS F N:Addr}{vs:List V}{H:Hp}{Q:VK}{E:XK}(h:x5 w CH CR CS F N vs H Q E):vT w CH CR CS F N vs H Q E:=by
 obtain⟨z,sa,p,n,aw,m,rs,rfl,hn,⟨M,r,S,R,P⟩,hp,n9,k⟩:=h;exact⟨z,sa,p,n,aw,M,r,rdC m (rs false) .asked,rdC m (rs false) .taken,rfl,hn,S,hp,n9,cD R (P false) .asked,cD R (P false) .taken,k⟩
theorem Dg {w:World}{CT CR CS F N:Addr}{vs:List V}{H:Hp}{Q:VK}{E:XK}(h:xq w CT CR CS F N vs H Q E):tN w CT CR CS F N vs H Q E:=by
 obtain⟨z,sa,p,ts,m,rs,nm,rfl,hn,⟨M,r,S,R,P⟩,hp,k⟩:=h;exact⟨z,sa,p,ts,M,r,rdC m (rs true) .answered,rdC m (rs true) .handed,nm,rfl,hn,S,hp,cD R (P true) .answered,cD R (P true) .handed,k⟩
def rfC (a:Ad):Rf->Addr
|.deed=>a.iE
|.full=>a.uM
|.name=>a.gI
|.task=>a.gQ
def yr (w:World) (ad:Ad):Sp:=λvs H Q E=>∃ (a:YA) (q:YP) (S:YS) (x:Dd) (t:Addr),vs=[.ref a.y,.ref t]/\Yn w ad.bx ad.dQ ad.bu ad.cr ad.aJ H a q S/\q.Ok/\H t=some (.tup x.vs)/\x.Ok /\
 ∀ H',bG H H'->match x.chk q S with|none=>Q .non H'|some r=>E (.ref (rfC ad r)) none H'
theorem zx {f:Bool->Bd}(b:Bool):atI [V.str (f false).key,V.str (f true).key] (sdI b)=some (.str (f b).key):=by cases b<;>rfl
theorem zq (G:Gs K mg a d):FnOk P w K mg base (CXv P w) 8 a.eB d.eB ["self","some"] (yr w a):=by
 have c_is_deed:FnOk P w K mg base CX0 3 _ _ _ _:=yf G;have c_side_of:FnOk P w K mg base CX0 1 _ _ _ _:=Dn G;have c_Store_waits:FnOk P w K mg base CX0 1 _ _ _ _:=(qr G).imp λvs H Q E=>yV
 have cx_Hand_check_ask:FnOk P w K mg base (CXv P w) 6 _ _ _ _:=(vh G).imp λvs H Q E=>D1
 have cx_Heart_check_answer:FnOk P w K mg base (CXv P w) 6 _ _ _ _:=(sZ G).imp λvs H Q E=>Dg
 refine G.sA.okX (k:=7) qU (λvs H Q E h=>?_) (λcdv A' outer s' H vs Q E hr hR h=>?_)
 . obtain⟨y,q,S,x,t,rfl,_⟩:=h;rfl
 . obtain⟨y,q,S,x,t,rfl,Y,qo,ht,hx,k⟩:=h;have hu:=eZ hr;refine⟨_,((aL (fT (bT (aS c_is_deed (hr.mono (by decide)) (by rfl) G.yS G.sN.kp G.yc .nil ay ((pv 1)∣a9)))) (@ap _ _ _ (iB hR hr.hd (by rfl) G.mT G.xc_NoDeed (ai∣a9))) aj)∪((aL (ao cm (@ax _ _ _ _ _ _ _ ar (pv 1) ac (λ_ _=>rfl)) ai (av _)) ((aL (fT (rS (aB (ak (pv 0) rfl) G.aA G.eM c_Store_waits (hr.mono (by decide)) G.fe .nil ay ((@ax _ _ _ _ _ _ _ ar (pv 1) ac (λ_ _=>rfl))∣a9)) (λ_=>rfl))) (@ap _ _ _ (iB hR hr.hd (by rfl) G.mT G.xc_NoDeed (ai∣a9))) aj)∪(@ap _ _ _ zP)) aj)∪((aL (ao rQ (@ax _ _ _ _ _ _ _ bo (ak (pv 0) rfl) (aS c_side_of (hr.mono (by decide)) (by rfl) G.A6 G.sv.kp G.yN .nil ay ((pv 1)∣a9)) (λ_ _=>rfl)) (mS (ao cm (@ax _ _ _ _ _ _ _ ar (pv 1) ac (λ_ _=>rfl)) ai (av _)) ai ai) (av _)) (@ap _ _ _ (iB hR hr.hd (by rfl) G.mT G.xc_NoDeed (ai∣a9))) aj)∪((aL (ao cm (@ax _ _ _ _ _ _ _ ar (pv 1) ac (λ_ _=>rfl)) ai (av _)) (@ap _ _ _ (@b6 _ _ _ _ (bf (ak (pv 0) rfl) G.bE G.gE cx_Hand_check_ask (hr.mono (by decide)) G.iG .nil hR.passes) (by rfl))) aj)∪(@ap _ _ _ (aL (ao cm (@ax _ _ _ _ _ _ _ ar (pv 1) ac (λ_ _=>rfl)) ai (av _)) (@ap _ _ _ (@b6 _ _ _ _ (aB (ak (pv 0) rfl) G.bI G.eP cx_Heart_check_answer (hr.mono (by decide)) G.f7 .nil hR.passes ((@ax _ _ _ _ _ _ _ ar (pv 1) ac (λ_ _=>rfl))∣a9)) (by rfl))) aj)))))),?_⟩;have ht':H t=some (.tup (.str x.word :: x.args.map V.int)):=by rw[<-x.vs_eq];exact ht
   refine⟨_,rfl,t,x,rfl,ht,hx,λH1 e1=>⟨_,rfl,cU ?_⟩⟩;have Y1:=Y.same e1;have ht1:=e1 _ _ ht';refine⟨_,rfl,t,_,_,_,rfl,rfl,SqT.of ht1,aq,rfl,_,rfl,?_⟩;by_cases hd:∃ b,x=.drain b
   . obtain⟨b,rfl⟩:=hd;refine ic (decide_eq_true rfl) ?_;refine⟨_,rfl,fY Y1.ob G.am G.aG cL (gO Y1.x.st.ob (bW (by decide +kernel) (by decide +kernel)) ?_)⟩;refine⟨_,rfl,t,_,_,_,rfl,rfl,SqT.of ht1,rfl,y.sa,S.m,S.rs,b,rfl,Y1.x.st,λp2 ts hp2 dv=>?_⟩;have e2:=ag (o:=.lst ts) hp2;have hl:=lM dv;rw[length_map]at hl;refine⟨!ts.isEmpty,.inl ⟨_,SqL.of a6,rfl⟩,?_⟩;have k2:=k _ (e1.trans e2);cases hrs:S.rs b with
    |nil =>
      rw[hrs]at hl;have:ts=[]:=List.length_eq_zero_iff.mp hl;subst this;rw[show (Dd.drain b).chk q S=some .deed from if_pos hrs]at k2;exact fX ⟨by show 1 <= sizeLine;decide,k2⟩
    |cons r rest =>
      rw[hrs]at hl;have:ts.isEmpty=false:=by cases ts with|nil=>cases hl|cons=>rfl
      rw[this];rw[show (Dd.drain b).chk q S=none from if_neg (by rw[hrs];exact λy=>by cases y)]at k2;exact cU k2
   . have hnd:∀ b,x≠.drain b:=λb e=>hd ⟨b,e⟩
     refine cf (by rw[decide_eq_true_eq];exact sne λy=>hd ((x.word_drain).mp y)) ?_;refine⟨_,rfl,fY Y1.ob G.am G.aM bN ?_⟩;refine⟨_,rfl,t,x,rfl,e1 _ _ ht,λH2 e2=>?_⟩;have Y2:=Y1.same e2;have ht2:=e2 _ _ ht1;refine⟨y.sl,_,_,_,rfl,rfl,SqL.of Y2.sl,zx x.side,?_⟩;refine⟨_,rfl,t,_,_,_,rfl,rfl,SqT.of ht2,aq,rfl,_,rfl,?_⟩;have e3:=e1.trans e2;have bad:∀ {X:Prop},S.bd x.side≠x.need->E (.ref a.iE) none H2:=λ{X} hb=>by
      have k2:=k H2 e3;rw[Dd.chk_bed hnd hb]at k2;exact k2
     rcases x.word_look with⟨hw,hn,b,rfl⟩|⟨hw,hn⟩
     . refine ic (decide_eq_true (by rw[hw])) ⟨rfl,_,rfl,?_⟩;by_cases hb:S.bd (Dd.look b).side=(Dd.look b).need
       . refine cf (by rw[hb,hn];decide +kernel) ?_;refine⟨_,rfl,t,_,_,_,rfl,rfl,SqT.of ht2,aq,rfl,_,rfl,cf (by rw[decide_eq_true_eq];exact sne (show ¬ (("look":Str)="ask") by decide +kernel)) ?_⟩;refine⟨_,rfl,t,_,_,_,rfl,rfl,SqT.of ht2,aq,rfl,_,rfl,cf (by rw[decide_eq_true_eq];exact sne (show ¬ (("look":Str)="answer") by decide +kernel)) ?_⟩;have k2:=k H2 e3;rw[show (Dd.look b).chk q S=none from if_pos hb]at k2;exact k2
       . refine ic ?_ ⟨by show 1 <= sizeLine;decide,bad (X:=True) hb⟩;have:=D7 hb;rw[hn]at this;rw[not_eq_true',decide_eq_false_iff_not];exact this
     . refine cf (by rw[decide_eq_true_eq];exact sne hw) ⟨rfl,_,rfl,?_⟩;by_cases hb:S.bd x.side=x.need
       . refine cf (by rw[hb,hn];decide +kernel) ?_;rcases x.word_aa with⟨wt,rfl⟩|⟨nm,wt,rfl⟩|⟨h1,h2,h3⟩
         . refine⟨_,rfl,t,_,_,_,rfl,rfl,SqT.of ht2,aq,rfl,_,rfl,ic (decide_eq_true rfl) ?_⟩;refine⟨_,rfl,fY Y2.ob G.am G.dI o3 (gO Y2.x.hn.ob wf ⟨y.z,y.sa,q.p,q.n,S.un,S.m,S.rs,rfl,Y2.x.hn,Y2.x.st,qo.ok,qo.n9,?_⟩)⟩;have k2:=k H2 e3;rw[show (Dd.ask wt).chk q S=_ from if_pos hb]at k2;by_cases hc:az q.p S.m (S.rs false) .asked .taken=q.p.s
           . rw[if_pos hc]at k2 |-;exact k2
           . rw[if_neg hc]at k2 |-;cases hl:bw q.n S.un with
            |none=>rw[hl]at k2;exact k2
            |some nm =>
              rw[hl]at k2;exact⟨_,rfl,t,_,_,_,rfl,rfl,SqT.of ht2,aq,rfl,_,rfl,cf (by rw[decide_eq_true_eq];exact sne (show ¬ (("ask":Str)="answer") by decide +kernel)) k2⟩
         . refine⟨_,rfl,t,_,_,_,rfl,rfl,SqT.of ht2,aq,rfl,_,rfl,cf (by rw[decide_eq_true_eq];exact sne (show ¬ (("answer":Str)="ask") by decide +kernel)) ?_⟩;refine⟨_,rfl,t,_,_,_,rfl,rfl,SqT.of ht2,aq,rfl,_,rfl,ic (decide_eq_true rfl) ?_⟩;refine⟨_,rfl,fY Y2.ob G.am G.cN kY (gO Y2.x.tn.ob vG ⟨_,rfl,t,_,_,_,rfl,rfl,SqT.of ht2,rfl,y.zt,y.sa,q.p,S.tk,S.m,S.rs,nm,rfl,Y2.x.tn,Y2.x.st,qo.ok,?_⟩)⟩;have k2:=k H2 e3;rw[show (Dd.answer nm wt).chk q S=_ from if_pos hb]at k2;by_cases h0:S.tk.contains nm=false
           . rw[if_pos h0]at k2 |-;exact k2
           . rw[if_neg h0]at k2 |-;by_cases hc:az q.p S.m (S.rs true) .answered .handed=q.p.s
             . rw[if_pos hc]at k2 |-;exact k2
             . rw[if_neg hc]at k2 |-;exact k2
         . refine⟨_,rfl,t,_,_,_,rfl,rfl,SqT.of ht2,aq,rfl,_,rfl,cf (by rw[decide_eq_true_eq];exact sne h1) ?_⟩;refine⟨_,rfl,t,_,_,_,rfl,rfl,SqT.of ht2,aq,rfl,_,rfl,cf (by rw[decide_eq_true_eq];exact sne h2) ?_⟩;have k2:=k H2 e3;rw[h3 q S hnd hb]at k2;exact k2
       . refine ic ?_ ⟨by show 1 <= sizeLine;decide,bad (X:=True) hb⟩;have:=D7 hb;rw[hn]at this;rw[not_eq_true',decide_eq_false_iff_not];exact this
def Hb (s R:Int) (n:Nat) (fs:List Str):YP:=⟨⟨s,if fs.contains "round" then 1 else R,fs.contains "counter"⟩,n,!fs.contains "bell",!fs.contains "lie",!fs.contains "look"⟩
def Ay (w:World) (ad:Ad):Sp:=λvs H Q _=>∃ (y dx ft:Addr) (s R:Int) (n:Nat) (fs:List Str),vs=[.ref y,.int s,.int R,.int n,.ref ft]/\H y=some (.ins ad.bx dx [])/\H ft=some (.tup (fs.map V.str)) /\
 ∀ (a:YA) (H':Hp),a.y=y->(∀ c,a.own c->c≠y->H c=none)->Yn w ad.bx ad.dQ ad.bu ad.cr ad.aJ H' a (Hb s R n fs) YS.zero->Kp [y] H H'->Q .non H'
def Bp (w:World) (ad:Ad):Sp:=λvs H Q _=>∃ (a:YA) (q:YP) (S:YS),vs=[.ref a.y]/\Yn w ad.bx ad.dQ ad.bu ad.cr ad.aJ H a q S/\∀ l ts,H l=none->DVs H S.hs ts->Q (.ref l) (upd H l (.lst ts))
def wV (w:World) (ad:Ad):Sp:=λvs H Q _=>∃ (a:YA) (q:YP) (S:YS) (b:Bool),vs=[.ref a.y,.int (sdI b)]/\Yn w ad.bx ad.dQ ad.bu ad.cr ad.aJ H a q S/\Q (.str (S.bd b).key) H
def yP (w:World) (ad:Ad):Sp:=λvs H Q _=>∃ (a:YA) (q:YP) (S:YS),vs=[.ref a.y]/\Yn w ad.bx ad.dQ ad.bu ad.cr ad.aJ H a q S/\Q (.ref a.sa.x) H
theorem BG (G:Gs K mg a d):FnOk P w K mg base CX0 1 a.dZ d.dZ ["self"] (Bp w a):=by
 refine G.sQ.ok qY (λvs H Q E h=>?_) (λcdv A' outer s' H vs Q E hr h=>?_)
 . obtain⟨y,q,S,rfl,_⟩:=h;rfl
 . obtain⟨y,q,S,rfl,Y,k⟩:=h;refine⟨_,((br je (by rfl) G.vA rq ((ak (pv 0) rfl)∣a9))⁻¹),?_⟩;obtain⟨ts,h1,h2⟩:=Y.hp;exact⟨_,rfl,fY Y.ob G.am G.ce iq ⟨y.hp,ts,rfl,.inl (SqL.of h1),λl hl=>k l ts hl h2⟩⟩
theorem xb (G:Gs K mg a d):FnOk P w K mg base CX0 1 a.cE d.cE ["self","side"] (wV w a):=by
 refine G.oK.ok nT (λvs H Q E h=>?_) (λcdv A' outer s' H vs Q E hr h=>?_)
 . obtain⟨y,q,S,b,rfl,_⟩:=h;rfl
 . obtain⟨y,q,S,b,rfl,Y,k⟩:=h;refine⟨_,((@ax _ _ _ _ _ _ _ bo (ak (pv 0) rfl) (pv 1) (λ_ _=>rfl))⁻¹),?_⟩;exact⟨_,rfl,fY Y.ob G.am G.aM bN ⟨_,rfl,y.sl,_,_,_,rfl,rfl,SqL.of Y.sl,zx b,k⟩⟩
theorem tX (G:Gs K mg a d):FnOk P w K mg base CX0 1 a.eo d.eo ["self"] (yP w a):=by
 refine G.sX.ok qF (λvs H Q E h=>?_) (λcdv A' outer s' H vs Q E hr h=>?_)
 . obtain⟨y,q,S,rfl,_⟩:=h;rfl
 . obtain⟨y,q,S,rfl,Y,k⟩:=h;refine⟨_,((ak (pv 0) rfl)⁻¹),?_⟩;exact⟨_,rfl,fY Y.ob G.am G.aG cL k⟩
theorem Aj (G:Gs K mg a d):FnOk P w K mg base CX0 6 a.dW d.dW ["self","size","rounds","names","faults"] (Ay w a):=by
 have c_rounds_with:FnOk P w K mg base CX0 1 _ _ _ _:=vL G;have c_Store__init:FnOk P w K mg base CX0 1 _ _ _ _:=(DU G).imp λvs H Q E=>GK
 have c_Hand__init:FnOk P w K mg base CX0 4 _ _ _ _:=BI G;have c_Heart__init:FnOk P w K mg base CX0 4 _ _ _ _:=Bc G;refine G.tm.ok qT (λvs H Q E h=>?_) (λcdv A' outer s' H vs Q E hr h=>?_)
 . obtain⟨y,dx,ft,s,R,n,fs,rfl,_⟩:=h;rfl
 . obtain⟨y,dx,ft,s,R,n,fs,rfl,hx,hf,k⟩:=h;have hu:=eZ hr;refine⟨_,((bL (pv 0) (pv 1) rfl)∪((bL (pv 0) (aS c_rounds_with (hr.mono (by decide)) (by rfl) G.kq G.ir.kp G.kC .nil ay ((pv 2)∣((pv 4)∣a9))) rfl)∪((bL (pv 0) (br bz (by rfl) G.dP cn ((pv 4)∣a9)) rfl)∪((bL (pv 0) (BP G.DH c_Store__init (hr.mono (by decide)) (by rfl) G.DN G.rG .nil ay) rfl)∪((bL (pv 0) (jS G.EA c_Hand__init (hr.mono (by decide)) (by rfl) G.EE G.sH .nil ay ((ak (pv 0) rfl)∣((pv 1)∣((pv 2)∣((pv 3)∣((pv 4)∣a9)))))) rfl)∪((bL (pv 0) (jS G.DL c_Heart__init (hr.mono (by decide)) (by rfl) G.DJ G.qH .nil ay ((ak (pv 0) rfl)∣((pv 1)∣((pv 2)∣((pv 4)∣a9))))) rfl)∪((bL (pv 0) (ci dG ai (pv 4) (by with_unfolding_all rfl)) rfl)∪((bL (pv 0) (ci dG ai (pv 4) (by with_unfolding_all rfl)) rfl)∪((bL (pv 0) (ci dG ai (pv 4) (by with_unfolding_all rfl)) rfl)∪((bL (pv 0) (@bV _ _ _ _ (ai∣(ai∣a9))) rfl)∪((bL (pv 0) (@bV _ _ _ _ (eg∣(eg∣a9))) rfl)∪(@ap _ _ _ (bL (pv 0) (@bV _ _ _ _ a9) rfl))))))))))))),?_⟩;refine⟨_,rfl,_,rfl,y,a.bx,dx,[],rfl,hx,G.am,G.sj,by decide,?_⟩;have fy:ft≠y:=λz=>by rw[z,hx]at hf;cases hf
   refine⟨_,rfl,_,rfl,R,ft,fs,rfl,by rw[aa fy];exact hf,_,rfl,y,a.bx,dx,_,rfl,a6,G.am,G.oU,by show 1 < 1000;decide,?_⟩;rw[cP];refine⟨_,rfl,ft,_,rfl,.inr ⟨SqT.of (by rw[aa fy];exact hf),?_⟩⟩;refine⟨_,rfl,y,a.bx,dx,_,rfl,a6,G.am,G.oV,by show 2 < 1000;decide,?_⟩;rw[cP];generalize hF3:bO "faults" (.ref ft) (bO "rounds" (.int (if fs.contains "round" then 1 else R)) (bO "size" (.int s) []))=F3;have hl3:F3.length=3:=by rw[<-hF3];rfl
   have kp3:Kp [y] H (upd H y (.ins a.bx dx F3)):=Kp.one;have hx3:upd H y (.ins a.bx dx F3) y=some (.ins a.bx dx F3):=a6;have hf3:upd H y (.ins a.bx dx F3) ft=some (.tup (fs.map V.str)):=by rw[aa fy];exact hf
   generalize upd H y (.ins a.bx dx F3)=H3 at kp3 hx3 hf3 |-;have up:∀ {Hi:Hp} {F:List (Str × V)} {c:Addr} {o:HO},c≠y->Hi c=some o->upd Hi y (.ins a.bx dx F) c=some o:=λn e=>by rw[aa n];exact e
   have nn:∀ {Hi:Hp} {F:List (Str × V)} {c:Addr},Hi y=some (.ins a.bx dx F)->Hi c=none->c≠y:=λe h z=>by rw[z,e]at h;cases h
   intro x dxs nx ndx nex;refine⟨x,dxs,rfl,a6,λsa H4 hsx fsa S4 kp4=>⟨rfl,?_⟩⟩;have e4:=mI nx ndx kp4;have fs4:∀ c,sa.own c->H3 c=none:=λc hc=>by
    by_cases z:c=x
    . rw[z];exact nx
    . exact(up1 (up1 (fsa c hc z)).2).2
   subst hsx;refine⟨_,rfl,y,a.bx,dx,F3,rfl,e4 _ _ hx3,G.am,G.aG,by rw[hl3];decide,?_⟩;clear kp4 nx ndx nex fsa;have S5:StT w a.aJ (upd H4 y (.ins a.bx dx (bO "shelf" (.ref sa.x) F3))) sa Mem.zero λ_=>[]:=S4.keep (λc o hc e=>up (nn hx3 (fs4 c hc)) e) λb vs e=>up (λz=>by rw[z,e4 _ _ hx3]at e;cases e) e
   have kp5:Kp [y] H3 (upd H4 y (.ins a.bx dx (bO "shelf" (.ref sa.x) F3))):=λc o n e=>up (λz=>n (mem_singleton.mpr z)) (e4 _ _ e)
   have hx5:upd H4 y (.ins a.bx dx (bO "shelf" (.ref sa.x) F3)) y=some (.ins a.bx dx (bO "shelf" (.ref sa.x) F3)):=a6;have hf5:upd H4 y (.ins a.bx dx (bO "shelf" (.ref sa.x) F3)) ft=some (.tup (fs.map V.str)):=up fy (e4 _ _ hf3);generalize upd H4 y (.ins a.bx dx (bO "shelf" (.ref sa.x) F3))=H5 at S5 kp5 hx5 hf5 |-;clear S4 e4;refine⟨_,rfl,fY ⟨dx,hx5⟩ G.am G.aG (v:=.ref sa.x) (by rw[a8,if_pos rfl]) ⟨_,rfl,_,rfl,_,rfl,_,rfl,?_⟩⟩;intro h dh nh ndh neh;refine⟨h,dh,sa.x,ft,s,R,n,fs,rfl,a6,?_,λz H6 hz g1 g2 g3 hn6 kp6=>⟨rfl,?_⟩⟩
   . rw[aa (ae hf5 nh),aa (ae hf5 ndh)];exact hf5
   have e6:=mI nh ndh kp6;have fz:∀ c,z.own c->H5 c=none:=λc h2=>by
    rcases h2 with y|y|y|y
    . rw[y,hz];exact nh
    . rw[y];exact(up1 (up1 g1).2).2
    . rw[y];exact(up1 (up1 g2).2).2
    . rw[y];exact(up1 (up1 g3).2).2
   subst hz;refine⟨_,rfl,y,a.bx,dx,_,rfl,e6 _ _ hx5,G.am,G.dI,?_,?_⟩
   . rw[<-hF3];show 4 < 1000;decide
   generalize hF7:bO "hand" (.ref z.h) (bO "shelf" (.ref sa.x) F3)=F7;have S7:StT w a.aJ (upd H6 y (.ins a.bx dx F7)) sa Mem.zero λ_=>[]:=(S5.same e6).keep (λc o hc e=>up (nn hx3 (fs4 c hc)) e) λb vs e=>up (λz=>by rw[z,e6 _ _ hx5]at e;cases e) e
   have hn7:Hn a.dQ a.cr (upd H6 y (.ins a.bx dx F7)) z sa.x ⟨s,if fs.contains "round" then 1 else R,fs.contains "counter"⟩ n []:=hn6.keep λc o hc e=>up (nn hx5 (fz c hc)) e
   have kp7:Kp [y] H5 (upd H6 y (.ins a.bx dx F7)):=λc o n e=>up (λz=>n (mem_singleton.mpr z)) (e6 _ _ e)
   have hx7:upd H6 y (.ins a.bx dx F7) y=some (.ins a.bx dx F7):=a6;have hf7:upd H6 y (.ins a.bx dx F7) ft=some (.tup (fs.map V.str)):=up fy (e6 _ _ hf5);generalize upd H6 y (.ins a.bx dx F7)=H7 at S7 hn7 kp7 hx7 hf7 |-;clear kp6 nh ndh neh g1 g2 g3 S5 hn6 e6;refine⟨_,rfl,fY ⟨dx,hx7⟩ G.am G.aG (v:=.ref sa.x) (by rw[<-hF7,a8,if_neg (by decide +kernel),a8,if_pos rfl]) ⟨_,rfl,_,rfl,_,rfl,?_⟩⟩;intro h dh nh ndh neh;refine⟨h,dh,sa.x,ft,s,R,fs,rfl,a6,?_,λzt H8 hz g1 g2 g3 tn8 kp8=>⟨rfl,?_⟩⟩
   . rw[aa (ae hf7 nh),aa (ae hf7 ndh)];exact hf7
   have e8:=mI nh ndh kp8;have fzt:∀ c,zt.own c->H7 c=none:=λc h2=>by
    rcases h2 with y|y|y|y
    . rw[y,hz];exact nh
    . rw[y];exact(up1 (up1 g1).2).2
    . rw[y];exact(up1 (up1 g2).2).2
    . rw[y];exact(up1 (up1 g3).2).2
   subst hz;have dz:∀ c,z.own c->¬ zt.own c:=λc h1 h2=>by
    obtain⟨o,e,_⟩:=hn7.there h1;rw[fzt c h2]at e;cases e
   refine⟨_,rfl,y,a.bx,dx,_,rfl,e8 _ _ hx7,G.am,G.cN,?_,?_⟩
   . rw[<-hF7,<-hF3];show 5 < 1000;decide
   have hf9:∀ F,upd H8 y (.ins a.bx dx F) ft=some (.tup (fs.map V.str)):=λF=>up fy (e8 _ _ hf7)
   refine⟨_,rfl,ft,_,rfl,.inr (SqT.of (hf9 _)),rfl,gH fs,?_⟩;refine⟨_,rfl,y,a.bx,dx,_,rfl,a6,G.am,G.fQ,?_,?_⟩
   . rw[<-hF7,<-hF3];show 6 < 1000;decide
   rw[cP];refine⟨_,rfl,ft,_,rfl,.inr (SqT.of (hf9 _)),rfl,gH fs,?_⟩;refine⟨_,rfl,y,a.bx,dx,_,rfl,a6,G.am,G.fZ,?_,?_⟩
   . rw[<-hF7,<-hF3];show 7 < 1000;decide
   rw[cP];refine⟨_,rfl,ft,_,rfl,.inr (SqT.of (hf9 _)),rfl,gH fs,?_⟩;refine⟨_,rfl,y,a.bx,dx,_,rfl,a6,G.am,G.gJ,?_,?_⟩
   . rw[<-hF7,<-hF3];show 8 < 1000;decide
   rw[cP];simp only[if_true,qy];generalize hF9:bO "look_sees" (V.bl (!fs.contains "look")) (bO "lie_fences" (V.bl (!fs.contains "lie")) (bO "bell_fences" (V.bl (!fs.contains "bell")) (bO "heart" (V.ref zt.h) F7)))=F9;have hl9:F9.length=9:=by rw[<-hF9,<-hF7,<-hF3];rfl
   have S9:StT w a.aJ (upd H8 y (.ins a.bx dx F9)) sa Mem.zero λ_=>[]:=(S7.same e8).keep (λc o hc e=>up (nn hx3 (fs4 c hc)) e) λb vs e=>up (λz=>by rw[z,e8 _ _ hx7]at e;cases e) e
   have hn9:=(hn7.same e8).keep (H':=upd H8 y (.ins a.bx dx F9)) λc o hc e=>up (nn hx5 (fz c hc)) e
   have tn9:=Tn.keep (H':=upd H8 y (.ins a.bx dx F9)) tn8 λc o hc e=>up (nn hx7 (fzt c hc)) e
   have kp9:Kp [y] H7 (upd H8 y (.ins a.bx dx F9)):=λc o n e=>up (λz=>n (mem_singleton.mpr z)) (e8 _ _ e)
   have hx9:upd H8 y (.ins a.bx dx F9) y=some (.ins a.bx dx F9):=a6;generalize upd H8 y (.ins a.bx dx F9)=H9 at S9 hn9 tn9 kp9 hx9 |-;clear kp8 nh ndh neh g1 g2 g3 S7 hn7 e8 tn8 hf9;have X9:X5 w a.dQ a.bu a.cr a.aJ H9 z zt sa ⟨s,if fs.contains "round" then 1 else R,fs.contains "counter"⟩ n Mem.zero (λ_=>[]) [] []:=⟨hn9,tn9,S9,dz⟩
   clear S9 hn9 tn9;have kpA:Kp [y] H H9:=kp3.trans (kp5.trans (kp7.trans kp9));have ow:∀ c,xh z zt sa c->H3 c=none:=λc hc=>by
    rcases hc with hc|hc|hc
    . exact fu kp5 (fz c hc) λx mx=>by rw[mem_singleton.mp mx,hx5];exact λz=>by cases z
    . exact fu (kp5.trans kp7) (fzt c hc) λx mx=>by rw[mem_singleton.mp mx,hx7];exact λz=>by cases z
    . exact fs4 c hc
   have owH:∀ c,xh z zt sa c->H c=none:=λc hc=>fu kp3 (ow c hc) λx mx=>by rw[mem_singleton.mp mx,hx3];exact λz=>by cases z
   have owy:¬ xh z zt sa y:=λhc=>by have:=ow y hc;rw[hx3]at this;cases this
   clear kp3 kp5 kp7 kp9 fs4 fz fzt;have stp:∀ {Hi:Hp} {Fi F':List (Str × V)} {l:Addr} {o:HO},Hi y=some (.ins a.bx dx Fi)->Hi l=none->(∀ c u,c≠y->Hi c=some u->upd (upd Hi l o) y (.ins a.bx dx F') c=some u)/\upd (upd Hi l o) y (.ins a.bx dx F') l=some o/\upd (upd Hi l o) y (.ins a.bx dx F') y=some (.ins a.bx dx F'):=λ{Hi Fi F' l o} hy hl =>
    ⟨λc u n e=>up n (by rw[aa (ae e hl)];exact e),up (nn hy hl) a6,a6⟩
   have kx:∀ {Hi Hj:Hp},(∀ c u,c≠y->Hi c=some u->Hj c=some u)->(∃ F,Hi y=some (.ins a.bx dx F))->X5 w a.dQ a.bu a.cr a.aJ Hi z zt sa ⟨s,if fs.contains "round" then 1 else R,fs.contains "counter"⟩ n Mem.zero (λ_=>[]) [] []->X5 w a.dQ a.bu a.cr a.aJ Hj z zt sa ⟨s,if fs.contains "round" then 1 else R,fs.contains "counter"⟩ n Mem.zero (λ_=>[]) [] []:=λ{Hi Hj} kk ⟨F,hy⟩ X=>X.keep (λc o hc e=>kk c o (λy'=>owy (by rw[<-y'];exact hc)) e) λb vs e=>kk b _ (λy'=>by rw[y',hy]at e;cases e) e
   refine⟨l2,λsl hsl=>⟨_,rfl,y,a.bx,dx,F9,rfl,(by rw[aa (ae hx9 hsl)];exact hx9),G.am,G.aM,by rw[hl9];decide,?_⟩⟩;obtain⟨a1,a2,a3⟩:=stp (F':=bO "sleepers" (.ref sl) F9) (o:=.lst [V.str "up",V.str "up"]) hx9 hsl;generalize upd (upd H9 sl (.lst [V.str "up",V.str "up"])) y (.ins a.bx dx (bO "sleepers" (.ref sl) F9))=H10 at a1 a2 a3 |-;have X10:=kx a1 ⟨_,hx9⟩ X9;refine⟨l2,λqu hqu=>⟨_,rfl,y,a.bx,dx,_,rfl,(by rw[aa (ae a3 hqu)];exact a3),G.am,G.f8,?_,?_⟩⟩
   . rw[<-hF9,<-hF7,<-hF3];show 10 < 1000;decide
   obtain⟨b1,b2,b3⟩:=stp (F':=bO "quiet" (.ref qu) (bO "sleepers" (.ref sl) F9)) (o:=.lst [V.bl true,V.bl true]) a3 hqu;generalize upd (upd H10 qu (.lst [V.bl true,V.bl true])) y (.ins a.bx dx (bO "quiet" (.ref qu) (bO "sleepers" (.ref sl) F9)))=H11 at b1 b2 b3 |-;have X11:=kx b1 ⟨_,a3⟩ X10;have b4:=b1 _ _ (nn hx9 hsl) a2;refine⟨rE,λhp hhp=>⟨_,rfl,y,a.bx,dx,_,rfl,(by rw[aa (ae b3 hhp)];exact b3),G.am,G.ce,?_,?_⟩⟩
   . rw[<-hF9,<-hF7,<-hF3];show 11 < 1000;decide
   obtain⟨c1,c2,c3⟩:=stp (F':=bO "happened" (.ref hp) (bO "quiet" (.ref qu) (bO "sleepers" (.ref sl) F9))) (o:=.lst []) b3 hhp;generalize upd (upd H11 hp (.lst [])) y (.ins a.bx dx (bO "happened" (.ref hp) (bO "quiet" (.ref qu) (bO "sleepers" (.ref sl) F9))))=H12 at c1 c2 c3 |-;have X12:=kx c1 ⟨_,b3⟩ X11;have c4:=c1 _ _ (nn hx9 hsl) b4;have c5:=c1 _ _ (nn a3 hqu) b2;have n1:sl≠qu:=ae a2 hqu;have n2:sl≠hp:=ae b4 hhp;have n3:qu≠hp:=ae b2 hhp;have kpB:Kp [y] H H12:=λc o n e=>c1 c o (λz=>n (mem_singleton.mpr z)) (b1 c o (λz=>n (mem_singleton.mpr z)) (a1 c o (λz=>n (mem_singleton.mpr z)) (kpA c o n e)))
   have nH:∀ {Hi:Hp} {c:Addr},Kp [y] H Hi->(∃ F,Hi y=some (.ins a.bx dx F))->Hi c=none->H c=none:=λkk ⟨F,e⟩ h=>fu kk h λx mx=>by rw[mem_singleton.mp mx,e];exact λz=>by cases z
   have kp10:Kp [y] H H10:=λc o n e=>a1 c o (λz=>n (mem_singleton.mpr z)) (kpA c o n e)
   have kp11:Kp [y] H H11:=λc o n e=>b1 c o (λz=>n (mem_singleton.mpr z)) (kp10 c o n e)
   refine k ⟨y,ft,sa,z,zt,sl,qu,hp⟩ H12 rfl (λc hc ny=>?_) ⟨⟨dx,?_⟩,X12,c4,c5,⟨[],c2,rfl⟩,λ_ h=>(by cases h),λc hc h5=>?_,⟨n1,n2,n3⟩,owy⟩ kpB
   . rcases hc with y'|hc|y'|y'|y'
     . exact absurd y' ny
     . exact owH c hc
     . rw[y'];exact nH kpA ⟨_,hx9⟩ hsl
     . rw[y'];exact nH kp10 ⟨_,a3⟩ hqu
     . rw[y'];exact nH kp11 ⟨_,b3⟩ hhp
   . rw[c3,<-hF9,<-hF7,<-hF3];rfl
   . rcases hc with y'|y'|y'
     . obtain⟨o,e,_⟩:=X9.there h5;rw[y',hsl]at e;cases e
     . obtain⟨o,e,_⟩:=X10.there h5;rw[y',hqu]at e;cases e
     . obtain⟨o,e,_⟩:=X11.there h5;rw[y',hhp]at e;cases e
section
variable {H:Hp}{M:List (PyData × V)}{m:Mem}
theorem Di (R:MemR H M m):FJ M:=λp hp=>by
 obtain⟨c,_,e⟩:=wg _ (R.ks p hp);cases c with
|c k=>exact .inl ⟨_,e.symm⟩
|p g i=>exact .inr ⟨_,e.symm⟩
theorem Fr (R:MemR H M m) (nd:(M.map (·.1)).Nodup):∀ p∈M,WV H p.2:=λp hp=>by
 obtain⟨c,_,e⟩:=wg _ (R.ks p hp);have hp':(c.key,p.2)∈M:=by rw[e];exact hp
 rcases D8 R nd c with⟨_,z⟩|⟨dd,v,e1,hv,_,dv⟩
 . rw[z _ hp'];exact⟨.int 0,rfl,by show 0 <= 8;decide,rfl⟩
 . have a1:=jL nd R.kk hv;have a2:=jL nd R.kk hp';rw[a1]at a2;cases a2;cases c with
  |c k =>
    have e1':(if m.c k=0 then none else some (PyData.int (m.c k)))=some dd:=e1;split at e1'
    . cases e1'
    . cases e1';exact⟨_,rfl,by show 0 <= 8;decide,dv⟩
  |p g i =>
    obtain⟨nw,_,rfl⟩:=map_eq_some_iff.mp e1;exact⟨_,rfl,by show 1 <= 8;decide,dv⟩
end
def Da:Sp:=λvs H Q _=>∃ (v:V) (c:Ck),vs=[v]/\c∈dR/\DV H c.key v/\∀ H',bG H H'->Q (.str (mn c.key)) H'
theorem Ge {g:Bool}{i:Int}(h:Ck.p g i∈dR):0 <= i/\i < 8:=by
 simp only[dR,mem_cons,not_mem_nil,or_false,Ck.p.injEq,reduceCtorEq,false_or]at h;omega
def EV (g:Bool) (i:Int):Prop:=i.natAbs.log2 < 1920/\([j5 g,(toString i:String)].map (λs:Str=>s.length)).sum+[j5 g,(toString i:String)].length * (" ":Str).length <= 16777216
theorem Er {g:Bool}{i:Int}(h:0 <= i/\i < 8):EV g i:=by
 have:i=0\/i=1\/i=2\/i=3\/i=4\/i=5\/i=6\/i=7:=by omega
 unfold EV;rcases this with rfl|rfl|rfl|rfl|rfl|rfl|rfl|rfl<;>cases g<;>decide +kernel
theorem DT (G:Gs K mg a d):FnOk P w K mg base CX0 1 a.jG d.jG ["cell"] Da:=by
 refine G.yR.ok wR (λvs H Q E h=>?_) (λcdv A' outer s' H vs Q E hr h=>?_)
 . obtain⟨v,c,rfl,_⟩:=h;rfl
 . obtain⟨v,c,rfl,hc,dv,k⟩:=h;refine⟨_,((aL (bT (aI b7 (by rfl) G.aP aH ((pv 0)∣((cR (v:=.ty "tuple") (by rfl) G.dP cn rfl)∣a9)))) ((@lO _ _ _ _ _ _ _ _ _ _ _ _ PySem.F.plainAttrs_str PySem.F.slot_str_join PySem.F.type_str_join DO ai ((by exact o6 (caps:=[]) (js:=[]) rfl (lX rfl rfl (by decide +kernel) (by decide +kernel) rfl trivial rfl rfl) (by decide +kernel) trivial (EH (pv 0)) (λC s₃ H₃ pins ex E'=>by exact mV) (λC s₃ H₃ pins ex E'=>by exact(br Ao (by rfl) G.Ae vI ((pv 0)∣a9))))∣a9) (by rfl) (by rfl) (by rfl) (by rfl) (by rfl))⁻¹) aj)∪((pv 0)⁻¹)),?_⟩;cases c with
  |c kn =>
    have:v=.str kn.key:=dv;subst this;exact⟨_,rfl,_,_,.type "str",false,rfl,.str _,FU,_,rfl,cU ⟨_,rfl,k H λ_ _ e=>e⟩⟩
  |p g i =>
    obtain⟨t,vs,rfl,ht,u1,r1,rfl,e1,u2,r2,rfl,e2,rfl⟩:=dv;have e1':u1=.str (j5 g):=e1;have e2':u2=.int i:=e2;subst e1' e2';obtain⟨b1,b2⟩:=Er (g:=g) (Ge hc);refine⟨_,rfl,_,_,.type "tuple",true,rfl,.tup ht,Cu,_,rfl,fX ?_⟩;refine⟨rfl,_,rfl,t,rfl,⟨_,SqT.of ht⟩,λD hD=>?_⟩;have e0:∀ ys,bG H (upd H D (.lst ys)):=λys=>ag hD
    refine⟨λj mm ys H'=>j <= 2/\mm=2 - j/\ys=([V.str (j5 g),V.str (toString i:String)]:List V).take j/\H'=upd H D (.lst ys),⟨_,zero_le _,rfl,rfl,rfl⟩,?_⟩;rintro j mm ys H2 ⟨hj,rfl,rfl,rfl⟩;refine⟨a6,Nat.lt_of_lt_of_le (show _ < 1000 by rw[length_take];show min j 2 < 1000;omega) (by decide),?_⟩
    match j,hj with
   |0,_ =>
     refine .inr ⟨⟨_,_,SqT.of (e0 _ _ _ ht),rfl⟩,?_⟩;rintro v H3 ⟨rfl,hv⟩;have hv:=hv _ (SqT.of (e0 _ _ _ ht));cases hv;exact fX ⟨_,rfl,.inr ⟨_,rfl,a6,1,by decide,by decide,rfl,rfl,by rw[cP]⟩⟩
   |1,_ =>
     refine .inr ⟨⟨_,_,SqT.of (e0 _ _ _ ht),rfl⟩,?_⟩;rintro v H3 ⟨rfl,hv⟩;have hv:=hv _ (SqT.of (e0 _ _ _ ht));cases hv;exact fX ⟨_,rfl,.inl ⟨i,rfl,b1,a6,0,by decide,by decide,rfl,rfl,by rw[cP]⟩⟩
   |2,_ =>
     exact .inl ⟨⟨_,SqT.of (e0 _ _ _ ht),Nat.le_refl _⟩," ",D,[j5 g,(toString i:String)],rfl,rfl,SqL.of a6,b2,k _ (e0 _)⟩
theorem zS {α β:Type}{R:α->β->Prop}{L:α->α->Prop}{L':β->β->Prop}(h:∀ a a' b b',R a b->R a' b'->L' b b'->L a a'):∀ {as:List α}{bs:List β},Paired R as bs->bs.Pairwise L'->as.Pairwise L:=by
 intro as bs p
 induction p with
|nil=>intro _;exact .nil
|@cons a b as bs r t ih =>
  intro hb;rw[List.pairwise_cons]at hb |-;refine⟨λa' ha'=>?_,ih hb.2⟩;obtain⟨i,hi,rfl⟩:=getElem_of_mem ha';obtain⟨b',hb',r'⟩:=Paired.at' t (getElem?_eq_getElem hi);exact h a as[i] b b' r r' (hb.1 b' (mem_of_getElem? hb'))
def PT (H:Hp) (p:PyData × PyData) (v:V):Prop:=MX.kd (.tuple [p.1,p.2])=true/\DV H (.tuple [p.1,p.2]) v
theorem PT.keep {H H':Hp}(ht:∀ b vs,H b=some (.tup vs)->H' b=some (.tup vs)) {ps:List (PyData × PyData)}{vs:List V}(h:Paired (PT H) ps vs):Paired (PT H') ps vs:=Paired.mapP h λ_ _ q=>⟨q.1,DV.keep ht _ _ q.1 q.2⟩
theorem C5 {H:Hp}:∀ {ps:List (PyData × PyData)}{vs:List V},Paired (PT H) ps vs->DVs H (ps.map λp=>.tuple [p.1,p.2]) vs
|_,_,.nil=>rfl
|_,_,.cons r t=>⟨_,_,rfl,r.2,C5 t⟩
theorem sS:∀ row:List Wr,MX.kds (row.map wrD)=true
|[]=>rfl
|x :: row=>by
  show ((MX.kd x.key && (MX.kd x.dat && true)) && MX.kds (row.map wrD))=true;rw[x.key_kd,x.dat_kd,sS row];rfl
theorem ni {H:Hp}:∀ ns:List Int,DVs H (ns.map PyData.int) (ns.map V.int)
|[]=>rfl
|n :: ns=>⟨_,_,rfl,rfl,ni ns⟩
theorem no {H:Hp}:∀ {kvs:List (PyData × V)}{ts:List V},Paired (λ(kv:PyData × V) t=>mL H kv.1 t) kvs ts->Paired (λ(kv:PyData × V) (p:Str × V)=>p.1=mn kv.1/\mL H kv.1 p.2) kvs ((kvs.map λkv=>mn kv.1).zip ts)
|_,_,.nil=>.nil
|_,_,.cons r t=>.cons ⟨rfl,r⟩ (no t)
def Hl (row:List Wr):PyData:=.tuple (row.map wrD)
def DZ (ns:List Int):PyData:=.tuple (ns.map PyData.int)
def EO (S:YS) (us ks:List Int):PyData:=.tuple [.tuple ((gP S.m).map λp=>.tuple [p.1,p.2]),Hl (S.rs false),Hl (S.rs true),DZ us,DZ ks,.str (S.bd false).key,.str (S.bd true).key]
def Aw (w:World) (ad:Ad):Sp:=λvs H Q _=>∃ (a:YA) (q:YP) (S:YS),vs=[.ref a.y]/\Yn w ad.bx ad.dQ ad.bu ad.cr ad.aJ H a q S/\S.un.length < 64/\S.tk.length < 64 /\
 ∀ (t:Addr) (us ks:List Int) (vs:List V) (H':Hp),us.Perm S.un->us.Pairwise (· <= ·)->ks.Perm S.tk->ks.Pairwise (· <= ·)->H t=none->bG H H'->H' t=some (.tup vs)->DV H' (EO S us ks) (.ref t)->Q (.ref t) H'
theorem By (G:Gs K mg a d):FnOk P w K mg base CX0 4 a.eC d.eC ["self"] (Aw w a):=by
 have c_Store_cells:FnOk P w K mg base CX0 1 _ _ _ _:=Ac G;have c_Store_memory:FnOk P w K mg base CX0 1 _ _ _ _:=oq G;have c_Store_waits:FnOk P w K mg base CX0 1 _ _ _ _:=(qr G).imp λvs H Q E=>yV
 have c_Hand_under_way:FnOk P w K mg base CX0 1 _ _ _ _:=Bi G;have c_Heart_tasks:FnOk P w K mg base CX0 1 _ _ _ _:=Az G;have c_text_of:FnOk P w K mg base CX0 1 _ _ _ _:=DT G;refine G.sL.ok kW (λvs H Q E h=>?_) (λcdv A' outer s' H vs Q E hr h=>?_)
 . obtain⟨y,q,S,rfl,_⟩:=h;rfl
 . obtain⟨y,q,S,rfl,Y,ul,kl,k⟩:=h;have hu:=eZ hr;refine⟨_,((@aK _ _ 1 _ _ _ _ kW.nd rfl (Or.inl rfl) (Bs c_text_of (hr.mono (by decide)) G.xI (by rfl) G.mH (by rfl) G.zG (bf (ak (pv 0) rfl) G.aA G.pB c_Store_cells (hr.mono (by decide)) G.qB .nil ay)) (by rfl) (by exact .inl rfl))∪((@aO _ _ _ _ _ ((br bz (by rfl) G.dP cn ((by exact o6 (tc:=λ_ H Q=>Q true H) (te:=GO (tJ (pc 0) (tJ (Df a.aJ "memory" (oA w a.aJ) [] E0 (G1 K (pc 1) "shelf") (tJ (pc 0) CB)) CB))) (caps:=["self"]) (js:=[0]) rfl (lX rfl rfl (by decide +kernel) (by decide +kernel) rfl ⟨rfl,trivial⟩ rfl rfl) (by decide +kernel) ⟨⟨⟨_,rfl⟩,rfl,.inl rfl,.inl rfl⟩,trivial⟩ (eV (pv 1)) (λC s₃ H₃ pins ex E'=>by exact mV) (λC s₃ H₃ pins ex E'=>by exact(@aO _ _ _ _ _ ((pv 0)∣((aB (ak (pv 1) rfl) G.aA G.fG c_Store_memory (hr.mono (by decide)) G.gs .nil ay ((pv 0)∣a9))∣a9)))))∣a9))∣((br bz (by rfl) G.dP cn ((aB (ak (pv 0) rfl) G.aA G.eM c_Store_waits (hr.mono (by decide)) G.fe .nil ay (ac∣a9))∣a9))∣((br bz (by rfl) G.dP cn ((aB (ak (pv 0) rfl) G.aA G.eM c_Store_waits (hr.mono (by decide)) G.fe .nil ay (ac∣a9))∣a9))∣((br bz (by rfl) G.dP cn ((bf (ak (pv 0) rfl) G.bE G.lC c_Hand_under_way (hr.mono (by decide)) G.mD .nil ay)∣a9))∣((br bz (by rfl) G.dP cn ((bf (ak (pv 0) rfl) G.bI G.oN c_Heart_tasks (hr.mono (by decide)) G.rC .nil ay)∣a9))∣((@ax _ _ _ _ _ _ _ bo (ak (pv 0) rfl) ac (λ_ _=>rfl))∣((@ax _ _ _ _ _ _ _ bo (ak (pv 0) rfl) ac (λ_ _=>rfl))∣a9))))))))⁻¹)),?_⟩;obtain⟨M,r,St,R,Pr⟩:=id Y.x.st;have nd:(M.map (·.1)).Nodup:=by obtain⟨_,_,_,_,nd,_⟩:=St.me;exact nd
   have ml:=StT.small St R;refine⟨_,rfl,fY Y.ob G.am G.aG cL (gO Y.x.st.ob (bW (by decide +kernel) (by decide +kernel)) ⟨y.sa.x,y.sa.hd,y.sa.rl,y.sa.l,M,r,rfl,St,Di R,by omega,Fr R nd,λp1 ts hp1 pr1=>?_⟩)⟩;have fl:=length_filter_le nz M;have tl:=aX pr1;refine⟨p1,ts,(M.filter nz).map λkv=>mn kv.1,rfl,SqL.of a6,by rw[length_map];exact tl,by omega,?_,λD H1 ps hD e1 hD1 pm pw=>?_⟩
   . intro i x key hx hkey H' e';obtain⟨kv,hkv,hK⟩:=oo pr1 hx;rw[getElem?_map,hkv]at hkey;cases hkey;have hm:=(mem_filter.mp (mem_of_getElem? hkv)).1;obtain⟨c,hc,ec⟩:=wg _ (R.ks kv hm);refine⟨x,c,rfl,hc,?_,λH'' e''=>⟨by rw[ec],e''⟩⟩;rw[ec];exact DV.keep (λb vs e=>e' _ _ (ag hp1 _ _ e)) _ _ hK.1 hK.2.2.1
   obtain⟨qs,pq1,pq2⟩:=nS pm (no pr1);have pqs:qs.Pairwise λa b=>leS (mn a.1) (mn b.1):=zS (λa a' b b' r r' h=>by rw[<-r.1,<-r'.1];exact h) pq2 pw
   have cd:=A0 R nd pq1 pqs;have E1:bG H H1:=(ag hp1).trans e1;have cl:=aX cd;have pl2:=aX pq2;have ql:=pq1.length_eq;refine⟨_,rfl,D,rfl,⟨_,SqL.of hD1⟩,λD2 hD2=>?_⟩;refine⟨λi mm ys H'=>i <= ps.length/\mm=ps.length - i/\Paired (PT H') ((gP S.m).take i) ys/\H' D2=some (.lst ys)/\∀ c o,c≠D2->H1 c=some o->H' c=some o,⟨_,zero_le _,rfl,.nil,a6,λc o n e=>by rw[aa n];exact e⟩,?_⟩;rintro i mm ys H2 ⟨hi,rfl,py,hD22,k2⟩;have e2:bG H1 H2:=λc o e=>k2 c o (λy=>by rw[y,hD2]at e;cases e) e
   have yl:=aX py;rw[length_take]at yl;refine⟨hD22,Nat.lt_of_lt_of_le (show _ < 1000 by omega) (by decide),?_⟩;by_cases hii:i=ps.length;rotate_left
   . have hlt:i < ps.length:=by omega
     refine .inr ⟨⟨_,_,SqL.of (e2 _ _ hD1),by rw[getElem?_map,getElem?_eq_getElem hlt];rfl⟩,?_⟩;rintro v H3 ⟨rfl,hv⟩;have hv:=hv _ (SqL.of (e2 _ _ hD1));rw[getElem?_map,getElem?_eq_getElem hlt]at hv;cases hv;obtain⟨kv,hkv,r1,r2⟩:=oo pq2 (getElem?_eq_getElem hlt);obtain⟨p,hp,c1,c2⟩:=Paired.at' cd hkv;have hm:=(mem_filter.mp (pq1.mem_iff.mp (mem_of_getElem? hkv))).1;have E2:bG H H3:=E1.trans e2;have Y2:=Y.same E2;have tu:∀ b vs,H b=some (.tup vs)->H3 b=some (.tup vs):=λb vs=>E2 b _
     refine fX ⟨_,rfl,_,rfl,fY Y2.ob G.am G.aG cL (gO Y2.x.st.ob (bW (by decide +kernel) (by decide +kernel)) ⟨_,rfl,y.sa.x,y.sa.hd,y.sa.rl,y.sa.l,M,r,_,kv.1,rfl,St.keep (λc o _=>E2 c o) tu,⟨r2.1,r2.2.1,DV.keep tu _ _ r2.1 r2.2.2.1,r2.2.2.2⟩,l2,λt ht=>?_⟩)⟩;rw[jL nd R.kk (show (kv.1,kv.2)∈M from hm)];have et:=ag (o:=.tup [ps[i].2,((some kv.2).getD (V.int 0))]) ht;have nD:D2≠t:=ae hD22 ht;have tu2:∀ b vs,H3 b=some (.tup vs)->upd (upd H3 t (.tup [ps[i].2,((some kv.2).getD (V.int 0))])) D2 (.lst (ys++[.ref t])) b=some (.tup vs):=λb vs e=>by
      rw[aa (λz=>by rw[z,hD22]at e;cases e)];exact et _ _ e
     have kdp:MX.kd p.2=true/\MX.kd p.1=true:=by
      obtain⟨c,hc,e⟩:=mem_filterMap.mp (mem_of_getElem? hp);obtain⟨dd,hd,rfl⟩:=map_eq_some_iff.mp e;cases c with
     |c kk =>
       have hd':(if S.m.c kk=0 then none else some (PyData.int (S.m.c kk)))=some dd:=hd;split at hd'
       . cases hd'
       . cases hd';exact⟨rfl,oW kk⟩
     |p g j =>
       obtain⟨nw,_,rfl⟩:=map_eq_some_iff.mp hd;exact⟨rfl,nP g j⟩
     refine⟨by rw[aa nD];exact hD22,ps.length - (i+1),by omega,by omega,rfl,?_,a6,λc o n e=>by rw[aa n];exact et _ _ (k2 c o n e)⟩;rw[take_add_one,hp];refine Paired.snoc (PT.keep tu2 py) ⟨?_,?_⟩
     . show (MX.kd p.1 && (MX.kd p.2 && true))=true;rw[kdp.1,kdp.2];rfl
     . refine⟨t,_,rfl,(by rw[aa (Ne.symm nD)];exact a6),_,_,rfl,?_,_,_,rfl,?_,rfl⟩
       . rw[<-c1];exact DV.keep (λb vs e=>tu2 _ _ (tu _ _ e)) _ _ r2.1 r2.2.2.1
       . exact DV.keep (λb vs e=>tu2 _ _ (tu _ _ e)) _ _ kdp.1 c2
   refine .inl ⟨⟨_,SqL.of (e2 _ _ hD1),by rw[length_map];omega⟩,?_⟩;rw[hii,take_of_length_le (by omega)]at py;refine⟨D2,ys,rfl,.inl ⟨SqL.of hD22,λt1 ht1=>?_⟩⟩;have E2:bG H H2:=E1.trans e2;have s1:=ag (o:=.tup ys) ht1;have v1:upd H2 t1 (.tup ys) t1=some (.tup ys):=a6;have p1':=PT.keep (λb vs=>s1 b _) py;have E3:bG H (upd H2 t1 (.tup ys)):=E2.trans s1;generalize upd H2 t1 (.tup ys)=H3 at s1 v1 p1' E3 |-;clear py hD22 k2 e2 s1 E2 hD1 hD2 e1 hD pm pw pq1 pq2 cd E1;have Y3:=Y.same E3;refine⟨_,rfl,fY Y3.ob G.am G.aG cL (gO Y3.x.st.ob (bW (by decide +kernel) (by decide +kernel)) ⟨y.sa,S.m,S.rs,false,rfl,Y3.x.st,λq2 r2 hq2 d2=>⟨q2,r2,rfl,.inl ⟨SqL.of a6,λt2 ht2=>?_⟩⟩⟩)⟩;have s2:=(ag (o:=.lst r2) hq2).trans (ag (o:=.tup r2) ht2);have v2:upd (upd H3 q2 (.lst r2)) t2 (.tup r2) t2=some (.tup r2):=a6;generalize upd (upd H3 q2 (.lst r2)) t2 (.tup r2)=H4 at s2 v2 |-;have d2':=DVs.keep (λb vs=>s2 b _) _ _ (sS _) d2;have Y4:=Y3.same s2;refine⟨_,rfl,fY Y4.ob G.am G.aG cL (gO Y4.x.st.ob (bW (by decide +kernel) (by decide +kernel)) ⟨y.sa,S.m,S.rs,true,rfl,Y4.x.st,λq3 r3 hq3 d3=>⟨q3,r3,rfl,.inl ⟨SqL.of a6,λt3 ht3=>?_⟩⟩⟩)⟩;have s3:=(ag (o:=.lst r3) hq3).trans (ag (o:=.tup r3) ht3);have v3:upd (upd H4 q3 (.lst r3)) t3 (.tup r3) t3=some (.tup r3):=a6;generalize upd (upd H4 q3 (.lst r3)) t3 (.tup r3)=H5 at s3 v3 |-;have d3':=DVs.keep (λb vs=>s3 b _) _ _ (sS _) d3;have Y5:=Y4.same s3;refine⟨_,rfl,fY Y5.ob G.am G.dI o3 (gO Y5.x.hn.ob BM ⟨y.z,y.sa.x,q.p,_,S.un,rfl,Y5.x.hn,ul,λq4 us hq4 pmu pwu=>⟨q4,us.map V.int,rfl,.inl ⟨SqL.of a6,λt4 ht4=>?_⟩⟩⟩)⟩;have s4:=(ag (o:=.lst (us.map V.int)) hq4).trans (ag (o:=.tup (us.map V.int)) ht4);have v4:upd (upd H5 q4 (.lst (us.map V.int))) t4 (.tup (us.map V.int)) t4=some (.tup (us.map V.int)):=a6;generalize upd (upd H5 q4 (.lst (us.map V.int))) t4 (.tup (us.map V.int))=H6 at s4 v4 |-;have Y6:=Y5.same s4;refine⟨_,rfl,fY Y6.ob G.am G.cN kY (gO Y6.x.tn.ob Am ⟨y.zt,y.sa.x,q.p,S.tk,rfl,Y6.x.tn,kl,λq5 ks hq5 pmk pwk=>⟨q5,ks.map V.int,rfl,.inl ⟨SqL.of a6,λt5 ht5=>?_⟩⟩⟩)⟩;have s5:=(ag (o:=.lst (ks.map V.int)) hq5).trans (ag (o:=.tup (ks.map V.int)) ht5);have v5:upd (upd H6 q5 (.lst (ks.map V.int))) t5 (.tup (ks.map V.int)) t5=some (.tup (ks.map V.int)):=a6;generalize upd (upd H6 q5 (.lst (ks.map V.int))) t5 (.tup (ks.map V.int))=H7 at s5 v5 |-;have Y7:=Y6.same s5;refine⟨_,rfl,fY Y7.ob G.am G.aM bN ⟨y.sl,_,_,_,rfl,rfl,SqL.of Y7.sl,zx (f:=S.bd) false,?_⟩⟩;refine⟨_,rfl,fY Y7.ob G.am G.aM bN ⟨y.sl,_,_,_,rfl,rfl,SqL.of Y7.sl,zx (f:=S.bd) true,?_⟩⟩;refine⟨by show 7 <= sizeLine;decide,λt8 ht8=>?_⟩;have s8:=ag (o:=.tup [V.ref t1,V.ref t2,V.ref t3,V.ref t4,V.ref t5,V.str (S.bd false).key,V.str (S.bd true).key]) ht8;have v8:upd H7 t8 (.tup [V.ref t1,V.ref t2,V.ref t3,V.ref t4,V.ref t5,V.str (S.bd false).key,V.str (S.bd true).key]) t8=some (.tup [V.ref t1,V.ref t2,V.ref t3,V.ref t4,V.ref t5,V.str (S.bd false).key,V.str (S.bd true).key]):=a6;have E7:bG H H7:=E3.trans (s2.trans (s3.trans (s4.trans s5)));generalize upd H7 t8 (.tup [V.ref t1,V.ref t2,V.ref t3,V.ref t4,V.ref t5,V.str (S.bd false).key,V.str (S.bd true).key])=H8 at s8 v8 |-;have b5:=s5.trans s8;have b4:=s4.trans b5;have b3:=s3.trans b4;have b2:=s2.trans b3;refine k t8 us ks _ H8 pmu pwu pmk pwk (b9 E7 ht8) (E7.trans s8) v8 ⟨t8,_,rfl,v8,_,_,rfl,⟨t1,ys,rfl,b2 _ _ v1,C5 (PT.keep (λb vs=>b2 b _) p1')⟩,_,_,rfl,⟨t2,r2,rfl,b3 _ _ v2,DVs.keep (λb vs=>b3 b _) _ _ (sS _) d2'⟩,_,_,rfl,⟨t3,r3,rfl,b4 _ _ v3,DVs.keep (λb vs=>b4 b _) _ _ (sS _) d3'⟩,_,_,rfl,⟨t4,_,rfl,b5 _ _ v4,ni us⟩,_,_,rfl,⟨t5,_,rfl,s8 _ _ v5,ni ks⟩,_,_,rfl,rfl,_,_,rfl,rfl,rfl⟩
def DQ:Nat->Sp
|0=>λ_ _ _ _=>False
|n+1=>λvs H Q _=>∃ (x y:V) (dd:PyData),vs=[x,y]/\DV H dd x/\DV H dd y/\mF dd/\dd.depth <= n/\∀ H',bG H H'->Q (.bl true) H'
section
variable {K:PySem.W.Frag}
theorem kbb:kitOne K (.type "bool") (.type "bool")=some true:=by rfl
theorem kib:kitOne K (.type "int") (.type "bool")=some false:=by rfl
theorem kii:kitOne K (.type "int") (.type "int")=some true:=by rfl
theorem kis:kitOne K (.type "int") (.type "str")=some false:=by rfl
theorem ksb:kitOne K (.type "str") (.type "bool")=some false:=by rfl
theorem kss:kitOne K (.type "str") (.type "str")=some true:=by rfl
theorem ktb:kitOne K (.type "tuple") (.type "bool")=some false:=by rfl
theorem kti:kitOne K (.type "tuple") (.type "int")=some false:=by rfl
theorem kts:kitOne K (.type "tuple") (.type "str")=some false:=by rfl
theorem ktt:kitOne K (.type "tuple") (.type "tuple")=some true:=by rfl
theorem klb:kitOne K (.type "list") (.type "bool")=some false:=by rfl
theorem kli:kitOne K (.type "list") (.type "int")=some false:=by rfl
theorem kls:kitOne K (.type "list") (.type "str")=some false:=by rfl
theorem klt:kitOne K (.type "list") (.type "tuple")=some false:=by rfl
theorem kll:kitOne K (.type "list") (.type "list")=some true:=by rfl
end
theorem yz:∀ {ds:List PyData}{i:Nat}{e:PyData},PyData.canLayAll0 ds=true->ds[i]?=some e->e.canLay0=true/\e.depth <= PyData.depthAll ds
|[],_,_,_,h=>by simp at h
|d :: ds,0,e,hl,h=>by
  simp at h;subst h;have h':d.canLay0=true/\PyData.canLayAll0 ds=true:=by simpa [PyData.canLayAll0] using hl
  exact⟨h'.1,by show d.depth <= max d.depth _;omega⟩
|d :: ds,i+1,e,hl,h=>by
  have h':d.canLay0=true/\PyData.canLayAll0 ds=true:=by simpa [PyData.canLayAll0] using hl
  obtain⟨a,b⟩:=yz (i:=i) (e:=e) h'.2 (by simpa using h);exact⟨a,by show e.depth <= max d.depth (PyData.depthAll ds);omega⟩
theorem y3 (G:Gs K mg a d):∀ n,FnOk P w K mg base CX0 n a.ix d.ix ["found","due"] (DQ n)
|0=>⟨λ_ _ _ _ h=>h.elim,λ_ _ _ _ _ _ _ _ _ _ _ _ _ h=>h.elim⟩
|n+1=>by
  have c_law_same:FnOk P w K mg base CX0 n _ _ _ _:=y3 G n;refine G.gN.ok nG (λvs H Q E h=>?_) (λcdv A outer st H vs Q E hr h=>?_)
  . obtain⟨x,y,dd,rfl,_⟩:=h;rfl
  . obtain⟨x,y,dd,rfl,hx,hy,lay,hd,k⟩:=h;refine⟨_,((aL (ao sV (pv 1) cq (av _)) ((ci sV (pv 0) cq (av _))⁻¹) aj)∪((aL (bT (aI b7 (by rfl) G.aP aH ((pv 1)∣((cR (v:=.ty "bool") (by rfl) G.vE qS rfl)∣a9)))) ((sU (aI b7 (by rfl) G.aP aH ((pv 0)∣((cR (v:=.ty "bool") (by rfl) G.vE qS rfl)∣a9))) (vD (ci (sf hr.units) (pv 0) (pv 1) (av _))))⁻¹) aj)∪((aL (bT (aI b7 (by rfl) G.aP aH ((pv 1)∣((cR (v:=.ty "str") (by rfl) G.Ae vI rfl)∣a9)))) ((sU (aI b7 (by rfl) G.aP aH ((pv 0)∣((cR (v:=.ty "str") (by rfl) G.Ae vI rfl)∣a9))) (vD (ci (sf hr.units) (pv 0) (pv 1) (av _))))⁻¹) aj)∪((aL (bT (aI b7 (by rfl) G.aP aH ((pv 1)∣((cR (v:=.ty "int") (by rfl) G.uW nB rfl)∣a9)))) ((sU (aI b7 (by rfl) G.aP aH ((pv 0)∣((cR (v:=.ty "int") (by rfl) G.uW nB rfl)∣a9))) (sU (C1 (aI b7 (by rfl) G.aP aH ((pv 0)∣((cR (v:=.ty "bool") (by rfl) G.vE qS rfl)∣a9)))) (vD (ci (sf hr.units) (pv 0) (pv 1) (av _)))))⁻¹) aj)∪((aL (bT (aI b7 (by rfl) G.aP aH ((pv 1)∣((cR (v:=.ty "tuple") (by rfl) G.dP cn rfl)∣a9)))) (@ap _ _ _ (aL (fT (bT (aI b7 (by rfl) G.aP aH ((pv 0)∣((cR (v:=.ty "tuple") (by rfl) G.dP cn rfl)∣a9))))) (eg⁻¹) aj)) (@ap _ _ _ (aL (fT (bT (aI b7 (by rfl) G.aP aH ((pv 0)∣((cR (v:=.ty "list") (by rfl) G.vA rq rfl)∣a9))))) (eg⁻¹) aj)))∪((aL (ao rQ (aI lr (by rfl) G.lc gR ((pv 0)∣a9)) (aI lr (by rfl) G.lc gR ((pv 1)∣a9)) (av _)) (eg⁻¹) aj)∪((iJ PassesOwn.never rfl (nN (by rfl) G.qL ((aI lr (by rfl) G.lc gR ((pv 1)∣a9))∣a9)) (aR (i:=2) nG.nd rfl (Or.inl rfl)) (@ap _ _ _ (aL (fT (bT (aS c_law_same hr (by rfl) G.jh G.gN.kp G.jo .nil ay ((@ax _ _ _ _ _ _ _ Cq (pv 0) (pv 2) (λ_ _=>rfl))∣((@ax _ _ _ _ _ _ _ Cq (pv 1) (pv 2) (λ_ _=>rfl))∣a9))))) (eg⁻¹) aj)))∪(eg⁻¹)))))))),?_⟩;cases dd with
   |none =>
     cases (show x=.non from hx);cases (show y=.non from hy);exact⟨_,rfl,rfl,_,rfl,yt rfl ⟨_,rfl,rfl,k _ (bG.refl _)⟩⟩
   |bool b =>
     cases (show x=.bl b from hx);cases (show y=.bl b from hy);refine⟨_,rfl,rfl,_,rfl,qK (by intro z;cases z) ?_⟩;refine⟨_,rfl,_,_,_,_,rfl,.bl b,kbb,_,rfl,fX ?_⟩;refine⟨_,rfl,_,_,_,_,rfl,.bl b,kbb,_,rfl,fX ⟨_,rfl,_,rfl,.bool b,.bool b,rfl,rfl,lay,lay,?_⟩⟩;simp only[false_eq_true,if_false];rw[eqv_refl _ lay.1];exact k _ (bG.refl _)
   |str t =>
     cases (show x=.str t from hx);cases (show y=.str t from hy);refine⟨_,rfl,rfl,_,rfl,qK (by intro z;cases z) ?_⟩;refine⟨_,rfl,_,_,_,_,rfl,.str t,ksb,_,rfl,cU ?_⟩;refine⟨_,rfl,_,_,_,_,rfl,.str t,kss,_,rfl,fX ?_⟩;refine⟨_,rfl,_,_,_,_,rfl,.str t,kss,_,rfl,fX ⟨_,rfl,_,rfl,.str t,.str t,rfl,rfl,lay,lay,?_⟩⟩;simp only[false_eq_true,if_false];rw[eqv_refl _ lay.1];exact k _ (bG.refl _)
   |int i =>
     cases (show x=.int i from hx);cases (show y=.int i from hy);refine⟨_,rfl,rfl,_,rfl,qK (by intro z;cases z) ?_⟩;refine⟨_,rfl,_,_,_,_,rfl,.int i,kib,_,rfl,cU ?_⟩;refine⟨_,rfl,_,_,_,_,rfl,.int i,kis,_,rfl,cU ?_⟩;refine⟨_,rfl,_,_,_,_,rfl,.int i,kii,_,rfl,fX ?_⟩;refine⟨_,rfl,_,_,_,_,rfl,.int i,kii,_,rfl,fX ⟨_,rfl,_,_,_,_,rfl,.int i,kib,_,rfl,_,rfl,fX ⟨_,rfl,_,rfl,.int i,.int i,rfl,rfl,lay,lay,?_⟩⟩⟩;simp only[false_eq_true,if_false];rw[eqv_refl _ lay.1];exact k _ (bG.refl _)
   |dict _=>exact hx.elim
   |list ds =>
     obtain⟨xa,xs,rfl,hxa,dxs⟩:=hx;obtain⟨ya,ys,rfl,hya,dys⟩:=hy;have lx:=DVs.length dxs;have ly:=DVs.length dys;have hd':PyData.depthAll ds+1 <= n:=hd;have hl':PyData.canLayAll0 ds=true:=lay.1;have hl16:PyData.depthAll ds+1 <= 16:=lay.2;have hsl:(sizeLine:Int) < 2 ^ 62:=by decide
     cases n with
    |zero=>exact absurd hd' (by omega)
    |succ m =>
      refine⟨_,rfl,rfl,_,rfl,qK (by intro z;cases z) ?_⟩;refine⟨_,rfl,_,_,_,_,rfl,.lst hya,klb,_,rfl,cU ?_⟩;refine⟨_,rfl,_,_,_,_,rfl,.lst hya,kls,_,rfl,cU ?_⟩;refine⟨_,rfl,_,_,_,_,rfl,.lst hya,kli,_,rfl,cU ?_⟩;refine⟨_,rfl,_,_,_,_,rfl,.lst hya,klt,_,rfl,cU ?_⟩;refine⟨_,rfl,_,_,_,_,rfl,.lst hxa,kll,_,rfl,cU ?_⟩;refine⟨_,rfl,xa,xs,rfl,.inl (SqL.of hxa),λ_=>⟨_,rfl,ya,ys,rfl,.inl (SqL.of hya),λhz=>⟨rfl,_,rfl,F4 (congrArg V.int (by rw[lx,ly])) ?_⟩⟩⟩;refine⟨_,rfl,ya,ys,rfl,.inl (SqL.of hya),λhz2=>⟨_,rfl,by omega,by omega,?_⟩⟩;rw[toNat_natCast];refine kI (n:=ys.length) (λi σ H'=>(∃ v2,σ=[some (.ref xa),some (.ref ya),v2])/\bG H H') ⟨⟨_,rfl⟩,bG.refl _⟩ ?_ ?_
      . rintro i σ H2 hi ⟨⟨v2,rfl⟩,e2⟩;have gx:=getElem?_eq_getElem (show i < xs.length by omega);have gy:=getElem?_eq_getElem hi;obtain⟨d1,g1,q1⟩:=DVs.get dxs gx;obtain⟨d2,g2,q2⟩:=DVs.get dys gy;rw[g1]at g2;cases g2;obtain⟨la,lb⟩:=yz hl' g1;refine⟨_,rfl,_,rfl,kA (.inl (SqL.of (e2 _ _ hxa))) (by rw[Int.zero_add];exact lY gx) ?_⟩;refine⟨_,rfl,_,rfl,kA (.inl (SqL.of (e2 _ _ hya))) (by rw[Int.zero_add];exact lY gy) ?_⟩;exact⟨_,_,d1,rfl,DV.mono (λb vs e=>e2 b _ e) (λb vs e=>e2 b _ e) _ _ q1,DV.mono (λb vs e=>e2 b _ e) (λb vs e=>e2 b _ e) _ _ q2,⟨la,by omega⟩,by omega,λH4 e4=>⟨_,rfl,cU ⟨⟨_,rfl⟩,e2.trans e4⟩⟩⟩
      . rintro σ H2 ⟨⟨v2,rfl⟩,e2⟩;exact k _ e2
   |tuple ds =>
     obtain⟨xa,xs,rfl,hxa,dxs⟩:=hx;obtain⟨ya,ys,rfl,hya,dys⟩:=hy;have lx:=DVs.length dxs;have ly:=DVs.length dys;have hd':PyData.depthAll ds+1 <= n:=hd;have hl':PyData.canLayAll0 ds=true:=lay.1;have hl16:PyData.depthAll ds+1 <= 16:=lay.2;have hsl:(sizeLine:Int) < 2 ^ 62:=by decide
     cases n with
    |zero=>exact absurd hd' (by omega)
    |succ m =>
      refine⟨_,rfl,rfl,_,rfl,qK (by intro z;cases z) ?_⟩;refine⟨_,rfl,_,_,_,_,rfl,.tup hya,ktb,_,rfl,cU ?_⟩;refine⟨_,rfl,_,_,_,_,rfl,.tup hya,kts,_,rfl,cU ?_⟩;refine⟨_,rfl,_,_,_,_,rfl,.tup hya,kti,_,rfl,cU ?_⟩;refine⟨_,rfl,_,_,_,_,rfl,.tup hya,ktt,_,rfl,fX ?_⟩;refine⟨_,rfl,_,_,_,_,rfl,.tup hxa,ktt,_,rfl,cU ?_⟩;refine⟨_,rfl,xa,xs,rfl,.inr (SqT.of hxa),λ_=>⟨_,rfl,ya,ys,rfl,.inr (SqT.of hya),λhz=>⟨rfl,_,rfl,F4 (congrArg V.int (by rw[lx,ly])) ?_⟩⟩⟩;refine⟨_,rfl,ya,ys,rfl,.inr (SqT.of hya),λhz2=>⟨_,rfl,by omega,by omega,?_⟩⟩;rw[toNat_natCast];refine kI (n:=ys.length) (λi σ H'=>(∃ v2,σ=[some (.ref xa),some (.ref ya),v2])/\bG H H') ⟨⟨_,rfl⟩,bG.refl _⟩ ?_ ?_
      . rintro i σ H2 hi ⟨⟨v2,rfl⟩,e2⟩;have gx:=getElem?_eq_getElem (show i < xs.length by omega);have gy:=getElem?_eq_getElem hi;obtain⟨d1,g1,q1⟩:=DVs.get dxs gx;obtain⟨d2,g2,q2⟩:=DVs.get dys gy;rw[g1]at g2;cases g2;obtain⟨la,lb⟩:=yz hl' g1;refine⟨_,rfl,_,rfl,kA (.inr (SqT.of (e2 _ _ hxa))) (by rw[Int.zero_add];exact lY gx) ?_⟩;refine⟨_,rfl,_,rfl,kA (.inr (SqT.of (e2 _ _ hya))) (by rw[Int.zero_add];exact lY gy) ?_⟩;exact⟨_,_,d1,rfl,DV.mono (λb vs e=>e2 b _ e) (λb vs e=>e2 b _ e) _ _ q1,DV.mono (λb vs e=>e2 b _ e) (λb vs e=>e2 b _ e) _ _ q2,⟨la,by omega⟩,by omega,λH4 e4=>⟨_,rfl,cU ⟨⟨_,rfl⟩,e2.trans e4⟩⟩⟩
      . rintro σ H2 ⟨⟨v2,rfl⟩,e2⟩;exact k _ e2
def tD (ns:List Int) (k:Nat):Int:=ns.getD k 0
def xP (K:PySem.W.Frag):Sp:=λvs H Q _=>∃ (b:Addr) (ns:List Int) (k:Nat),vs=[.ref b,.int k]/\SqL K H b (ns.map V.int)/\Q (.int (tD ns k)) H
structure MkOk (s R n:Int) (fs:List Str):Prop where
 s1:1 <= s
 s8:s <= 8
 R2:2 <= R
 R4:R <= 4
 n1:1 <= n
 n9:n <= 9
 fl:fs.length <= 5
def DA:Sp:=λvs H Q _=>∃ c:Int,vs=[.int c]/\∀ (t ft:Addr) (s R n:Int) (fs:List Str) (H':Hp),MkOk s R n fs->bG H H'->H t=none->H' t=some (.tup [.int s,.int R,.int n,.ref ft])->H' ft=some (.tup (fs.map V.str))->Q (.ref t) H'
theorem zE (G:Gs K mg a d):FnOk P w K mg base CX0 1 a.dm d.dm ["script","k"] (xP K):=by
 refine G.kG.ok pJ (λvs H Q E h=>?_) (λcdv A' outer s' H vs Q E hr h=>?_)
 . obtain⟨b,ns,k,rfl,_⟩:=h;rfl
 . obtain⟨b,ns,k,rfl,hS,q⟩:=h;refine⟨_,((aL (ao Gc (pv 1) (aI bq (by rfl) G.lc gR ((pv 0)∣a9)) (av _)) ((@ax _ _ _ _ _ _ _ bo (pv 0) (pv 1) (λ_ _=>rfl))⁻¹) aj)∪(ac⁻¹)),?_⟩;refine⟨_,rfl,_,rfl,b,_,rfl,.inl hS,_,_,rfl,rfl,_,rfl,?_⟩;by_cases h:k < ns.length
   . refine ic (decide_eq_true (by rw[length_map];omega)) ?_;refine⟨_,rfl,_,rfl,b,_,_,_,rfl,rfl,hS,lY (j:=k) (v:=.int (tD ns k)) ?_,q⟩;unfold tD;rw[getElem?_map,getElem?_eq_getElem h,getD_eq_getElem?_getD,getElem?_eq_getElem h];rfl
   . refine cf (by rw[decide_eq_true_eq,length_map];omega) ?_;have:tD ns k=0:=by unfold tD;rw[getD_eq_getElem?_getD,List.getElem?_eq_none (by omega)];rfl
     rw[this]at q;exact q
theorem Dl (G:Gs K mg a d):FnOk P w K mg base CX0 1 a.i4 d.i4 ["cell"] DA:=by
 refine G.qa.ok cB (λvs H Q E h=>?_) (λcdv A' outer s' H vs Q E hr h=>?_)
 . obtain⟨c,rfl,_⟩:=h;rfl
 . obtain⟨c,rfl,k⟩:=h;refine⟨_,((@aK _ _ 1 _ _ _ _ cB.nd rfl (Or.inl rfl) (@aN _ _ _ _ _ _ _ _ bS (pv 0) (@aN _ _ _ _ _ _ _ _ jz ac ac)) (by rfl) (by exact .inl rfl))∪((@aK _ _ 2 _ _ _ _ cB.nd rfl (Or.inl rfl) (@aN _ _ _ _ _ _ _ _ o8 ac (@aN _ _ _ _ _ _ _ _ bS (pv 1) ac)) (by rfl) (by exact .inl rfl))∪(@gA _ _ _ _ _ (aL (ao cm (@aN _ _ _ _ _ _ _ _ bS (@aN _ _ _ _ _ _ _ _ cp (pv 1) ac) ac) ac (av _)) (@ap _ _ _ (@aK _ _ 2 _ _ _ _ cB.nd rfl (Or.inl rfl) (@aN _ _ _ _ _ _ _ _ o8 ac (@aN _ _ _ _ _ _ _ _ bS (pv 1) ac)) (by rfl) (by exact .inl rfl))) aj)
    ((@aK _ _ 3 _ _ _ _ cB.nd rfl (Or.inl rfl) (@bV _ _ _ _ a9) (by rfl) (by exact .inl rfl))∪((@aK _ _ 4 _ _ _ _ cB.nd rfl (Or.inl rfl) (@aN _ _ _ _ _ _ _ _ cp (pv 1) ac) (by rfl) (by exact .inl rfl))∪((iJ PassesOwn.never rfl (eV (@bV _ _ _ _ (ai∣(ai∣(ai∣(ai∣(ai∣a9))))))) (aR (i:=5) cB.nd rfl (Or.inl rfl)) (@gA _ _ _ _ _ (aL (ao cm (@aN _ _ _ _ _ _ _ _ bS (pv 4) ac) ac (av _)) (@ap _ _ _ (@b6 _ _ _ _ (@lO _ _ _ _ _ _ _ _ _ _ _ _ PySem.F.plainAttrs_list PySem.F.slot_list_append PySem.F.type_list_append cZ (pv 3) ((pv 5)∣a9) (by rfl) (by rfl) (by rfl) (by rfl) (by rfl)) (by rfl))) aj)
    (@ap _ _ _ (@aK _ _ 4 _ _ _ _ cB.nd rfl (Or.inl rfl) (@aN _ _ _ _ _ _ _ _ cp (pv 4) ac) (by rfl) (by exact .inl rfl)))))∪((@aO _ _ _ _ _ ((pv 2)∣((@aN _ _ _ _ _ _ _ _ o8 ac (@aN _ _ _ _ _ _ _ _ bS (@aN _ _ _ _ _ _ _ _ cp (pv 1) ac) ac))∣((@aN _ _ _ _ _ _ _ _ o8 ac (@aN _ _ _ _ _ _ _ _ bS (@aN _ _ _ _ _ _ _ _ cp (pv 1) ac) ac))∣((br bz (by rfl) G.dP cn ((pv 3)∣a9))∣a9)))))⁻¹))))))),?_⟩
   have e12:(10:Int) ^ (12:Int).toNat=1000000000000:=by decide
   refine⟨_,rfl,_,_,rfl,rfl,⟨by decide,by decide,by decide⟩,_,_,rfl,rfl,by show (0:Int) < 10 ^ (12:Int).toNat;decide,?_⟩;have d0:=emod_nonneg c (show (10 ^ (12:Int).toNat:Int)≠0 by decide);have d1:=emod_lt_of_pos c (show (0:Int) < 10 ^ (12:Int).toNat by decide);rw[e12]at d0 d1;obtain⟨dr,hdr⟩:∃ dr,dr=c % 10 ^ (12:Int).toNat:=⟨_,rfl⟩
   have m8:=emod_nonneg dr (show (8:Int)≠0 by decide);have m8':=emod_lt_of_pos dr (show (0:Int) < 8 by decide);have m3:=emod_nonneg dr (show (3:Int)≠0 by decide);have m3':=emod_lt_of_pos dr (show (0:Int) < 3 by decide);refine⟨_,rfl,_,_,rfl,rfl,(show (0:Int) < 8 from by decide),_,_,rfl,rfl,?_⟩;refine⟨λσ' H'=>H'=H/\∃ s,σ'=[some (.int c),some (.int dr),some (.int s),none,none,none]/\1 <= s/\s <= 8,?_,?_⟩
   . refine⟨_,rfl,_,_,rfl,rfl,⟨by decide,by decide⟩,_,_,rfl,rfl,(show (0:Int) < 2 from by decide),rfl,_,rfl,?_⟩;refine wI (λ_=>?_) (λ_=>?_)
     . exact⟨_,rfl,_,_,rfl,rfl,(show (0:Int) < 3 from by decide),_,_,rfl,rfl,rfl,1+dr % 3,by rw[hdr];rfl,by omega,by omega⟩
     . exact⟨rfl,1+dr % 8,by rw[hdr];rfl,by omega,by omega⟩
   . rintro σ' H' ⟨rfl,s,rfl,s1,s8⟩;refine⟨rE,λfl hfl=>?_⟩;refine⟨_,rfl,_,_,rfl,rfl,⟨by decide,by decide⟩,?_⟩;refine⟨by show 5 <= sizeLine;decide,λlw hlw=>⟨lw,rfl,⟨_,SqL.of a6⟩,?_⟩⟩;have e1:=(ag (o:=.lst []) hfl).trans (ag (o:=.lst [V.str "bell",V.str "counter",V.str "lie",V.str "look",V.str "round"]) hlw);have v1:upd (upd H' fl (.lst [])) lw (.lst [V.str "bell",V.str "counter",V.str "lie",V.str "look",V.str "round"]) fl=some (.lst (([]:List Str).map V.str)):=by rw[aa (ae a6 hlw)];exact a6
     have vl:upd (upd H' fl (.lst [])) lw (.lst [V.str "bell",V.str "counter",V.str "lie",V.str "look",V.str "round"]) lw=some (.lst [V.str "bell",V.str "counter",V.str "lie",V.str "look",V.str "round"]):=a6;generalize upd (upd H' fl (.lst [])) lw (.lst [V.str "bell",V.str "counter",V.str "lie",V.str "look",V.str "round"])=H1 at e1 v1 vl |-;have nfl:lw≠fl:=λz=>by rw[z,v1]at vl;cases vl
     refine gf (K:=K) (a:=lw) (xs:=[V.str "bell",V.str "counter",V.str "lie",V.str "look",V.str "round"]) (λi σ H2=>∃ (fs:List Str) (b:Int),(∃ v5,σ=[some (.int c),some (.int dr),some (.int s),some (.ref fl),some (.int b),v5])/\fs.length <= i/\H2 fl=some (.lst (fs.map V.str))/\(∀ c o,c≠fl->H1 c=some o->H2 c=some o))
      ⟨[],_,⟨_,rfl⟩,Nat.le_refl _,v1,λ_ _ _ e=>e⟩ (λ_ _ _ _ ⟨_,_,_,_,_,z⟩=>SqL.of (z _ _ nfl vl)) ?_ ?_
     . rintro i x σ H2 hi ⟨fs,b,⟨v5,rfl⟩,fll,v2,k2⟩;have hi5:i < 5:=(List.getElem?_eq_some_iff.mp hi).1;obtain⟨wd,rfl⟩:∃ wd,x=.str wd:=by
        match i,hi with
       |0,hi=>cases hi;exact⟨_,rfl⟩
       |1,hi=>cases hi;exact⟨_,rfl⟩
       |2,hi=>cases hi;exact⟨_,rfl⟩
       |3,hi=>cases hi;exact⟨_,rfl⟩
       |4,hi=>cases hi;exact⟨_,rfl⟩
       |_+5,hi=>cases hi
       refine⟨λσ' H3=>∃ (fs:List Str),σ'=[some (.int c),some (.int dr),some (.int s),some (.ref fl),some (.int b),some (.str wd)]/\fs.length <= i+1/\H3 fl=some (.lst (fs.map V.str))/\(∀ c o,c≠fl->H1 c=some o->H3 c=some o),?_,?_⟩
       . refine⟨_,rfl,_,_,rfl,rfl,(show (0:Int) < 2 from by decide),rfl,_,rfl,?_⟩;refine wI (λ_=>?_) (λ_=>?_)
         . refine⟨_,rfl,.inl ⟨rfl,_,SqL.of v2⟩,_,rfl,fl,_,_,rfl,rfl,v2,Nat.lt_of_lt_of_le (show _ < 1000 by rw[length_map];omega) (by decide),fs++[wd],rfl,by rw[List.length_append];show _+1 <= _;omega,by rw[a6,map_append];rfl,λc o n e=>by rw[aa n];exact k2 c o n e⟩
         . exact⟨fs,rfl,by omega,v2,k2⟩
       . rintro σ' H3 ⟨fs',rfl,fl3,v3,k3⟩;exact⟨_,rfl,_,_,rfl,rfl,⟨by decide,by decide⟩,fs',_,⟨_,rfl⟩,fl3,v3,k3⟩
     . rintro σ H2 ⟨fs,b,⟨v5,rfl⟩,fll,v2,k2⟩;have a0:=emod_nonneg (dr / 16) (show (3:Int)≠0 by decide);have a1:=emod_lt_of_pos (dr / 16) (show (0:Int) < 3 by decide);have b0:=emod_nonneg (dr / 48) (show (9:Int)≠0 by decide);have b1:=emod_lt_of_pos (dr / 48) (show (0:Int) < 9 by decide);refine⟨_,rfl,_,rfl,_,_,rfl,rfl,⟨by decide,by decide⟩,_,_,rfl,rfl,(show (0:Int) < 3 from by decide),_,_,rfl,rfl,_,rfl,_,_,rfl,rfl,⟨by decide,by decide⟩,_,_,rfl,rfl,(show (0:Int) < 9 from by decide),_,_,rfl,rfl,?_⟩;refine⟨_,rfl,fl,_,rfl,.inl ⟨SqL.of v2,λft hft=>⟨by show 4 <= sizeLine;decide,λt ht=>?_⟩⟩⟩;have e2:bG H' H2:=λc o e=>k2 c o (λz=>ae e hfl z) (e1 _ _ e)
       have e3:=(ag (o:=.tup (fs.map V.str)) hft)
       have e4:=ag (o:=.tup [V.int s,V.int (2+dr / 16 % 3),V.int (1+dr / 48 % 9),V.ref ft]) ht;exact k t ft s _ _ fs _ ⟨s1,s8,by omega,by omega,by omega,by omega,fll⟩ ((e2.trans e3).trans e4) (b9 (e2.trans e3) ht) a6 (e4 _ _ a6)
def xU (w:World) (CH CR CS:Addr):Sp:=λvs H Q _=>∃ (z:HA) (sa:SA) (p:RP) (n:Int) (aw:List Int) (m:Mem) (rs:Bool->List Wr),vs=[.ref z.h]/\Hn CH CR H z sa.x p n aw/\StT w CS H sa m rs/\p.Ok/\Q (.bl (decide (az p m (rs false) .answered .handed≠0))) H
def ye (w:World) (CT CR CS:Addr):Sp:=λvs H Q _=>∃ (z:TA') (sa:SA) (p:RP) (ts:List Int) (m:Mem) (rs:Bool->List Wr),vs=[.ref z.h]/\Tn CT CR H z sa.x p ts/\StT w CS H sa m rs/\p.Ok/\Q (.bl (decide (az p m (rs true) .asked .taken≠0))) H
def zo (w:World) (ad:Ad):Sp:=λvs H Q _=>∃ (a:YA) (q:YP) (S:YS) (b:Bool),vs=[.ref a.y,.int (sdI b)]/\Yn w ad.bx ad.dQ ad.bu ad.cr ad.aJ H a q S/\q.Ok/\Q (.bl (swT q S b)) H
def Bh (w:World) (ad:Ad) (a:YA) (q:YP) (S':YS) (L:Nat) (dd:PyData) (H:Hp) (Q:VK):Prop:=∀ (v:V) (H':Hp),Yn w ad.bx ad.dQ ad.bu ad.cr ad.aJ H' a q S'->YI q S' (L+2)->DV H' dd v->KO a.own H H'->Q v H'
structure Rdy (w:World) (ad:Ad) (H:Hp) (a:YA) (q:YP) (S:YS) (L:Nat):Prop where
 y:Yn w ad.bx ad.dQ ad.bu ad.cr ad.aJ H a q S
 ok:q.Ok
 i:YI q S L
 l:L < 90000
def AB (w:World) (ad:Ad):Sp:=λvs H Q _=>∃ (a:YA) (q:YP) (S:YS) (L:Nat) (wt:Int),vs=[.ref a.y,.int wt]/\Rdy w ad H a q S L/\az q.p S.m (S.rs false) .asked .taken≠q.p.s/\bw q.n S.un≠none/\Bh w ad a q ((Dd.ask wt).run q S).2 L ((Dd.ask wt).run q S).1 H Q
def Bl (w:World) (ad:Ad):Sp:=λvs H Q _=>∃ (a:YA) (q:YP) (S:YS) (L:Nat) (nm wt:Int),vs=[.ref a.y,.int nm,.int wt]/\Rdy w ad H a q S L/\S.tk.contains nm≠false/\az q.p S.m (S.rs true) .answered .handed≠q.p.s/\Bh w ad a q ((Dd.answer nm wt).run q S).2 L ((Dd.answer nm wt).run q S).1 H Q
theorem re {own:Addr->Prop}{H1 H2 H3:Hp}(h1:KO own H1 H2) (h2:KO own H2 H3):KO own H1 H3:=h1.trans h2 λ_ hc=>.inl hc
theorem pI {own:Addr->Prop}{H:Hp}{c:Addr}{o:HO}(h:own c):KO own H (upd H c o):=KO.of_kp Kp.one λx hx=>by rw[mem_singleton.mp hx];exact h
theorem vc {p:RP}{m:Mem}{row:List Wr}{g:Bool}{a:Cn}{nm wt:Int}:(lZ p m row g a nm wt).length=2:=by
 unfold lZ;cases p.e<;>rfl
theorem iU {rs:Bool->List Wr}{L n:Nat}(h:∀ b,(rs b).length <= L) (b:Bool) {row:List Wr}(hr:row.length <= L+n):∀ c,(ba rs b row c).length <= L+n:=λc=>by
 by_cases e:c=b
 . subst e;rw[aD];exact hr
 . rw[bF e];have:=h c;omega
theorem yQ (G:Gs K mg a d):FnOk P w K mg base CX0 6 a.aY d.aY ["self"] (xU w a.dQ a.cr a.aJ):=by
 have c_Ring_filled:FnOk P w K mg base CX0 3 _ _ _ _:=kX G;refine G.iM.ok iC (λvs H Q E h=>?_) (λcdv A' outer s' H vs Q E hr h=>?_)
 . obtain⟨z,sa,p,n,aw,m,rs,rfl,_⟩:=h;rfl
 . obtain⟨z,sa,p,n,aw,m,rs,rfl,hn,⟨M,r,S,R,Pr⟩,hp,k⟩:=h;refine⟨_,((ci rQ (bf (ak (pv 0) rfl) G.au G.eK c_Ring_filled (hr.mono (by decide)) G.ff .nil ay) ac (av _))⁻¹),?_⟩;obtain⟨dx,hx⟩:=hn.ob;obtain⟨dr,hrb⟩:=hn.rb;refine⟨_,rfl,fld hx G.bE G.fo pQ ⟨z.rb,dr,_,rfl,hrb,kR,z.rb,sa,false,"answer","answered","handed",p,M,r,rdC m (rs false) .answered,rdC m (rs false) .handed,rfl,⟨dr,hrb⟩,S,hp,by decide +kernel,by decide +kernel,cD R (Pr false) .answered,cD R (Pr false) .handed,rfl,?_⟩⟩;have e:(!decide (V.int ((rdC m (rs false) .answered - rdC m (rs false) .handed) % (p.s * p.R))=V.int 0))=decide (az p m (rs false) .answered .handed≠0):=by
    rw[Bool.eq_iff_iff,not_eq_true',decide_eq_false_iff_not,decide_eq_true_eq];exact not_congr ⟨λh=>by injection h,λh=>congrArg V.int h⟩
   rw[e];exact k
theorem zh (G:Gs K mg a d):FnOk P w K mg base CX0 6 a.aU d.aU ["self"] (ye w a.bu a.cr a.aJ):=by
 have c_Ring_filled:FnOk P w K mg base CX0 3 _ _ _ _:=kX G;refine G.iw.ok gL (λvs H Q E h=>?_) (λcdv A' outer s' H vs Q E hr h=>?_)
 . obtain⟨z,sa,p,ts,m,rs,rfl,_⟩:=h;rfl
 . obtain⟨z,sa,p,ts,m,rs,rfl,hn,⟨M,r,S,R,Pr⟩,hp,k⟩:=h;refine⟨_,((ci rQ (bf (ak (pv 0) rfl) G.au G.eK c_Ring_filled (hr.mono (by decide)) G.ff .nil ay) ac (av _))⁻¹),?_⟩;obtain⟨dx,hx⟩:=hn.ob;obtain⟨dr,hra⟩:=hn.ra;refine⟨_,rfl,fld hx G.bI G.iz z0 ⟨z.ra,dr,_,rfl,hra,kR,z.ra,sa,true,"ask","asked","taken",p,M,r,rdC m (rs true) .asked,rdC m (rs true) .taken,rfl,⟨dr,hra⟩,S,hp,by decide +kernel,by decide +kernel,cD R (Pr true) .asked,cD R (Pr true) .taken,rfl,?_⟩⟩;have e:(!decide (V.int ((rdC m (rs true) .asked - rdC m (rs true) .taken) % (p.s * p.R))=V.int 0))=decide (az p m (rs true) .asked .taken≠0):=by
    rw[Bool.eq_iff_iff,not_eq_true',decide_eq_false_iff_not,decide_eq_true_eq];exact not_congr ⟨λh=>by injection h,λh=>congrArg V.int h⟩
   rw[e];exact k
theorem yI (G:Gs K mg a d):FnOk P w K mg base CX0 7 a.aZ d.aZ ["self","side"] (zo w a):=by
 have c_Hand_something_waits:FnOk P w K mg base CX0 6 _ _ _ _:=yQ G;have c_Heart_something_waits:FnOk P w K mg base CX0 6 _ _ _ _:=zh G;refine G.iK.ok ip (λvs H Q E h=>?_) (λcdv A' outer s' H vs Q E hr h=>?_)
 . obtain⟨y,q,S,b,rfl,_⟩:=h;rfl
 . obtain⟨y,q,S,b,rfl,Y,qo,k⟩:=h;refine⟨_,((mS (ao cm (pv 1) ac (av _)) (bf (ak (pv 0) rfl) G.bE G.gS c_Hand_something_waits (hr.mono (by decide)) G.iN .nil ay) (bf (ak (pv 0) rfl) G.bI G.gG c_Heart_something_waits (hr.mono (by decide)) G.i5 .nil ay))⁻¹),?_⟩;refine⟨_,rfl,rfl,_,rfl,?_⟩;cases b with
  |false =>
    refine ic (by decide +kernel) ?_;exact⟨_,rfl,fY Y.ob G.am G.dI o3 (gO Y.x.hn.ob Av ⟨y.z,y.sa,q.p,_,S.un,S.m,S.rs,rfl,Y.x.hn,Y.x.st,qo.ok,k⟩)⟩
  |true =>
    refine cf (by decide +kernel) ?_;exact⟨_,rfl,fY Y.ob G.am G.cN kY (gO Y.x.tn.ob AK ⟨y.zt,y.sa,q.p,S.tk,S.m,S.rs,rfl,Y.x.tn,Y.x.st,qo.ok,k⟩)⟩
theorem AW (G:Gs K mg a d):FnOk P w K mg base CX0 9 a.dC d.dC ["self","worth"] (AB w a):=by
 have cx_Hand_ask:FnOk P w K mg base (CXv P w) 8 _ _ _ _:=(Fk G).imp λvs H Q E=>HW
 refine G.r8.ok jE (λvs H Q E h=>?_) (λcdv A' outer s' H vs Q E hr h=>?_)
 . obtain⟨y,q,S,L,wt,rfl,_⟩:=h;rfl
 . obtain⟨y,q,S,L,wt,rfl,Rd,hc,hl,k⟩:=h;have Y:=Rd.y;have ll:=Rd.l;have ul:=Rd.i.und.len (by have:=Rd.ok.n9;omega);have rl:=Rd.i.len;have hsl:=Rd.i.hl;refine⟨_,((@aK _ _ 2 _ _ _ _ jE.nd rfl (Or.inl rfl) (aB (ak (pv 0) rfl) G.bE G.uf cx_Hand_ask (hr.mono (by decide)) G.x6 .nil Ek ((pv 1)∣a9)) (by rfl) (by exact .inl rfl))∪((@b6 _ _ _ _ (@lO _ _ _ _ _ _ _ _ _ _ _ _ PySem.F.plainAttrs_list PySem.F.slot_list_append PySem.F.type_list_append cZ (ak (pv 0) rfl) ((@aO _ _ _ _ _ (ai∣((pv 2)∣((pv 1)∣a9))))∣a9) (by rfl) (by rfl) (by rfl) (by rfl) (by rfl)) (by rfl))∪((@iI _ _ _ _ _ _ eg (nX (ak (pv 0) rfl) ac ig) (by rfl) (by rfl) (by rfl))∪((pv 2)⁻¹)))),?_⟩;cases hle:bw q.n S.un with
  |none=>exact absurd hle hl
  |some nm =>
    refine⟨_,rfl,fY Y.ob G.am G.dI o3 (gO Y.x.hn.ob FE ⟨_,rfl,y.z,y.sa,q.p,q.n,S.un,S.m,S.rs,wt,rfl,Y.x.hn,Y.x.st,Rd.ok.ok,Rd.ok.n9,by omega,by have:=rl false;omega,?_⟩)⟩;rw[if_neg hc,hle];intro H1 hn1 st1 kp1;have Y1:=Y.parts (Y.x.hand hn1 st1 kp1) kp1 pV;obtain⟨ts,h1,h2⟩:=Y1.hp;have tl:=lM h2;refine⟨_,rfl,fY Y1.ob G.am G.ce iq ⟨.inl ⟨rfl,_,SqL.of h1⟩,_,rfl,_,rfl,l3,λt ht=>?_⟩⟩;have e2:=ag (o:=.tup [V.str "asked",V.int nm,V.int wt]) ht;have v2:upd H1 t (.tup [V.str "asked",V.int nm,V.int wt]) t=some (.tup [V.str "asked",V.int nm,V.int wt]):=a6;generalize upd H1 t (.tup [V.str "asked",V.int nm,V.int wt])=H2 at e2 v2 |-;have Y2:=Y1.same e2;refine⟨y.hp,ts,_,rfl,rfl,e2 _ _ h1,Nat.lt_of_lt_of_le (show _ < 100000 by rw[tl];show S.hs.length < _;omega) (by decide),?_⟩;have Y3:=Y2.setHp (e2 _ _ h1) (x:=l6 "asked" (.int nm) (.int wt)) (v:=.ref t) ⟨t,_,rfl,v2,_,_,rfl,rfl,_,_,rfl,rfl,_,_,rfl,rfl,rfl⟩ rfl;refine⟨_,rfl,fY Y3.ob G.am G.f8 qC ⟨y.qu,_,_,_,rfl,rfl,Y3.qu,rfl,?_⟩⟩;have Y4:=Y3.setQu false false (ys:=[.bl false,.bl (S.qt true)]) rfl;have hrun:(Dd.ask wt).run q S=(.int nm,{ S with rs:=ba S.rs false (S.rs false++lZ q.p S.m (S.rs false) false .asked nm wt),un:=S.un++[nm],qt:=ba S.qt false false,hs:=S.hs++[l6 "asked" (.int nm) (.int wt)] }):=by
     show (match bw q.n S.un with|some nm=>_|none=>_)=_;rw[hle]
    rw[hrun]at k;refine⟨_,rfl,k (.int nm) _ Y4 ⟨Rd.i.und.snoc (jn hle) (mW hle),Rd.i.tkd,iU rl false (by rw[List.length_append,vc];have:=rl false;omega),by show (S.hs++[_]).length <= _;rw[List.length_append];show _+1 <= _;omega⟩ rfl ?_⟩;exact re (KO.of_kp kp1 λc hc=>.inr (.inl (pV c hc))) (re (KO.of_same e2) (re (pI (.inr (.inr (.inr (.inr rfl))))) (pI (.inr (.inr (.inr (.inl rfl)))))))
theorem AL (G:Gs K mg a d):FnOk P w K mg base CX0 9 a.bP d.bP ["self","name","worth"] (Bl w a):=by
 have cx_Heart_answer:FnOk P w K mg base (CXv P w) 8 _ _ _ _:=(yW G).imp λvs H Q E=>Dx
 refine G.mE.ok lN (λvs H Q E h=>?_) (λcdv A' outer s' H vs Q E hr h=>?_)
 . obtain⟨y,q,S,L,nm,wt,rfl,_⟩:=h;rfl
 . obtain⟨y,q,S,L,nm,wt,rfl,Rd,h0,hc,k⟩:=h;have Y:=Rd.y;have ll:=Rd.l;have rl:=Rd.i.len;have hsl:=Rd.i.hl;refine⟨_,((@b6 _ _ _ _ (aB (ak (pv 0) rfl) G.bI G.oz cx_Heart_answer (hr.mono (by decide)) G.pd .nil Ek ((pv 1)∣((pv 2)∣a9))) (by rfl))∪((@b6 _ _ _ _ (@lO _ _ _ _ _ _ _ _ _ _ _ _ PySem.F.plainAttrs_list PySem.F.slot_list_append PySem.F.type_list_append cZ (ak (pv 0) rfl) ((@aO _ _ _ _ _ (ai∣((pv 1)∣((pv 2)∣a9))))∣a9) (by rfl) (by rfl) (by rfl) (by rfl) (by rfl)) (by rfl))∪(@ap _ _ _ (@iI _ _ _ _ _ _ eg (nX (ak (pv 0) rfl) ac ig) (by rfl) (by rfl) (by rfl))))),?_⟩;refine⟨_,rfl,fY Y.ob G.am G.cN kY (gO Y.x.tn.ob zW ⟨_,rfl,_,rfl,y.zt,y.sa,q.p,S.tk,S.m,S.rs,nm,wt,rfl,Y.x.tn,Y.x.st,Rd.ok.ok,by have:=rl true;omega,λx hx=>Rd.i.tkd.2 x hx,?_⟩)⟩;rw[if_neg h0,if_neg hc];intro H1 tn1 st1 kp1;have Y1:=Y.parts (Y.x.heart tn1 st1 kp1) kp1 pO;obtain⟨ts,h1,h2⟩:=Y1.hp;have tl:=lM h2;refine⟨_,rfl,fY Y1.ob G.am G.ce iq ⟨.inl ⟨rfl,_,SqL.of h1⟩,_,rfl,_,rfl,l3,λt ht=>?_⟩⟩;have e2:=ag (o:=.tup [V.str "answered",V.int nm,V.int wt]) ht;have v2:upd H1 t (.tup [V.str "answered",V.int nm,V.int wt]) t=some (.tup [V.str "answered",V.int nm,V.int wt]):=a6;generalize upd H1 t (.tup [V.str "answered",V.int nm,V.int wt])=H2 at e2 v2 |-;have Y2:=Y1.same e2;refine⟨y.hp,ts,_,rfl,rfl,e2 _ _ h1,Nat.lt_of_lt_of_le (show _ < 100000 by rw[tl];show S.hs.length < _;omega) (by decide),?_⟩;have Y3:=Y2.setHp (e2 _ _ h1) (x:=l6 "answered" (.int nm) (.int wt)) (v:=.ref t) ⟨t,_,rfl,v2,_,_,rfl,rfl,_,_,rfl,rfl,_,_,rfl,rfl,rfl⟩ rfl;refine⟨_,rfl,fY Y3.ob G.am G.f8 qC ⟨y.qu,_,_,_,rfl,rfl,Y3.qu,rfl,?_⟩⟩;have Y4:=Y3.setQu true false (ys:=[.bl (S.qt false),.bl false]) rfl;refine k .non _ Y4 ⟨Rd.i.und,Rd.i.tkd.filter,iU rl true (by rw[List.length_append,vc];have:=rl true;omega),by show (S.hs++[_]).length <= _;rw[List.length_append];show _+1 <= _;omega⟩ rfl ?_;exact re (KO.of_kp kp1 λc hc=>.inr (.inl (pO c hc))) (re (KO.of_same e2) (re (pI (.inr (.inr (.inr (.inr rfl))))) (pI (.inr (.inr (.inr (.inl rfl)))))))
def Dz (w:World) (ad:Ad):Sp:=λvs H Q _=>∃ (a:YA) (q:YP) (S:YS) (wd:Str) (tv:V),vs=[.ref a.y,.str wd,tv]/\Yn w ad.bx ad.dQ ad.bu ad.cr ad.aJ H a q S/\S.hs.length < 99000 /\
 ((tv=.non/\Q .non H)\/∃ (t:Addr) (v1 v2:V) (d1 d2:PyData),tv=.ref t/\H t=some (.tup [v1,v2])/\DV H d1 v1/\DV H d2 v2/\scD d1=true/\scD d2=true/\∀ H',Yn w ad.bx ad.dQ ad.bu ad.cr ad.aJ H' a q { S with hs:=S.hs++[l6 wd d1 d2] }->KO a.own H H'->H' t=some (.tup [v1,v2])->Q (.ref t) H')
theorem Db (G:Gs K mg a d):FnOk P w K mg base CX0 1 a.bp d.bp ["self","word","told"] (Dz w a):=by
 refine G.jW.ok jt (λvs H Q E h=>?_) (λcdv A' outer s' H vs Q E hr h=>?_)
 . obtain⟨y,q,S,wd,tv,rfl,_⟩:=h;rfl
 . obtain⟨y,q,S,wd,tv,rfl,Y,hsl,k⟩:=h;refine⟨_,(@gA _ _ _ _ _ (aL (ao lH (pv 2) cq (av _)) (@ap _ _ _ (@b6 _ _ _ _ (@lO _ _ _ _ _ _ _ _ _ _ _ _ PySem.F.plainAttrs_list PySem.F.slot_list_append PySem.F.type_list_append cZ (ak (pv 0) rfl) ((@aO _ _ _ _ _ ((pv 1)∣((@ax _ _ _ _ _ _ _ ar (pv 2) ac (λ_ _=>rfl))∣((@ax _ _ _ _ _ _ _ ar (pv 2) ac (λ_ _=>rfl))∣a9))))∣a9) (by rfl) (by rfl) (by rfl) (by rfl) (by rfl)) (by rfl))) aj)
    ((pv 2)⁻¹)),?_⟩
   rcases k with⟨rfl,k⟩|⟨t,v1,v2,d1,d2,rfl,ht,dv1,dv2,s1,s2,k⟩
   . refine⟨λσ' H'=>H'=H/\σ'=[some (.ref y.y),some (.str wd),some .non],?_,?_⟩
     . exact⟨_,rfl,rfl,_,rfl,cU ⟨rfl,rfl⟩⟩
     . rintro σ' H' ⟨rfl,rfl⟩;exact⟨_,rfl,k⟩
   . refine⟨λσ' H'=>σ'=[some (.ref y.y),some (.str wd),some (.ref t)]/\Yn w a.bx a.dQ a.bu a.cr a.aJ H' y q { S with hs:=S.hs++[l6 wd d1 d2] }/\KO y.own H H'/\H' t=some (.tup [v1,v2]),?_,?_⟩
     . refine⟨_,rfl,rfl,_,rfl,fX ?_⟩;obtain⟨ts,h1,h2⟩:=Y.hp;have tl:=lM h2;refine⟨_,rfl,fY Y.ob G.am G.ce iq ⟨.inl ⟨rfl,_,SqL.of h1⟩,_,rfl,_,rfl,t,_,_,_,rfl,rfl,SqT.of ht,rfl,_,rfl,t,_,_,_,rfl,rfl,SqT.of ht,rfl,l3,λt2 ht2=>?_⟩⟩;have e2:=ag (o:=.tup [V.str wd,v1,v2]) ht2;have w2:upd H t2 (.tup [V.str wd,v1,v2]) t2=some (.tup [V.str wd,v1,v2]):=a6;generalize upd H t2 (.tup [V.str wd,v1,v2])=H2 at e2 w2 |-;have Y2:=Y.same e2;refine⟨y.hp,ts,_,rfl,rfl,e2 _ _ h1,Nat.lt_of_lt_of_le (show _ < 100000 by rw[tl];omega) (by decide),rfl,?_,?_,?_⟩
       . exact Y2.setHp (e2 _ _ h1) (x:=l6 wd d1 d2) (v:=.ref t2) ⟨t2,_,rfl,w2,_,_,rfl,rfl,_,_,rfl,DV.sc s1 dv1,_,_,rfl,DV.sc s2 dv2,rfl⟩ (by show (true && (scD d1 && (scD d2 && true)))=true;rw[s1,s2];rfl)
       . exact re (KO.of_same e2) (pI (.inr (.inr (.inr (.inr rfl)))))
       . rw[aa (λz=>by rw[z,h1]at ht;cases ht)];exact e2 _ _ ht
     . rintro σ' H' ⟨rfl,Y',ko,ht'⟩;exact⟨_,rfl,k H' Y' ko ht'⟩
theorem MemR.putAllY {H:Hp}:∀ {row:List Wr}{es M:List (PyData × V)}{m:Mem},MemR H M m->Paired (WrR H) row es->MemR H (kO M es) (m.putAllY row)
|_,_,_,_,R,.nil=>R
|_,_,_,_,R,.cons hx t=>by
  have h:=MemR.putAllY (R.put hx) t;exact h
def xN (w:World) (C:Addr):Sp:=λvs H Q _=>∃ (sa:SA) (m:Mem) (rs:Bool->List Wr) (b:Bool),vs=[.ref sa.x,.int (sdI b)]/\StT w C H sa m rs/\(rs b).length < 99000 /\
 ∀ H',StT w C H' sa (m.putAllY (rs b)) (ba rs b [])->Kp [sa.l b,sa.hd] H H'->Q .non H'
theorem Ce {w:World}{C:Addr}{vs:List V}{H:Hp}{Q:VK}{E:XK}(h:xN w C vs H Q E):vm w C vs H Q E:=by
 obtain⟨sa,m,rs,b,rfl,⟨M,r,S,R,P⟩,hl,k⟩:=h;have hl':=aX (P b);have hM:=StT.small S R;refine⟨sa.x,sa.hd,sa.rl,sa.l,M,r,b,rfl,S,by omega,λH' S' kp=>k H' ?_ kp⟩;have ht:∀ c vs,H c=some (.tup vs)->H' c=some (.tup vs):=λc vs e=>kp c _ (λmm=>by
  rcases mem_cons.mp mm with y|y
  . exact S.noT (b:=b) e (mem_singleton.mpr y)
  . obtain⟨ee,e'⟩:=S.me.there;rw[mem_singleton.mp y,e']at e;cases e) e
 refine⟨_,_,S',(MemR.putAllY R (P b)).keep ht,λc=>?_⟩;by_cases e:c=b
 . subst e;rw[aD,aD];exact .nil
 . rw[bF e,bF e];exact Paired.mapP (P c) λ_ _ q=>q.keep ht
def Bv (w:World) (C:Addr):Sp:=λvs H Q _=>∃ (sa:SA) (m:Mem) (rs:Bool->List Wr) (b:Bool) (k:Cn),vs=[.ref sa.x,.int (sdI b),.str k.key]/\StT w C H sa m rs/\Q (.int (rdC m (rs b) k)) H
theorem F0 {w:World}{C:Addr}{vs:List V}{H:Hp}{Q:VK}{E:XK}(h:Bv w C vs H Q E):uL w C vs H Q E:=by
 obtain⟨sa,m,rs,b,k,rfl,⟨M,r,S,R,P⟩,q⟩:=h;refine⟨sa.x,sa.hd,sa.rl,sa.l,M,r,b,.str k.key,.str k.key,rfl,S,kS (xl k),?_⟩;rw[cD R (P b) k];exact q
def jN (b:Bool):Nat:=if b then 1 else 0
theorem xw {b:Bool}:ixN 2 (sdI b)=some (jN b):=by cases b<;>rfl
theorem ss {f:Bool->Bd}{b:Bool}{x:Bd}:[V.str (f false).key,V.str (f true).key].set (jN b) (.str x.key)=[V.str (ba f b x false).key,V.str (ba f b x true).key]:=by cases b<;>rfl
theorem Fw {f:Bool->Bool}{b x:Bool}:[V.bl (f false),V.bl (f true)].set (jN b) (.bl x)=[V.bl (ba f b x false),V.bl (ba f b x true)]:=by cases b<;>rfl
theorem vx {b:Bool}:atI [V.str "hand sleeps",V.str "heart sleeps"] (sdI b)=some (.str (jl b).key):=by cases b<;>rfl
theorem wc (b:Bool):(1:Int) - sdI b=sdI (!b):=by cases b<;>rfl
def zg (w:World) (ad:Ad):Sp:=λvs H Q _=>∃ (a:YA) (q:YP) (S:YS) (L:Nat) (b:Bool),vs=[.ref a.y,.int (sdI b)]/\Rdy w ad H a q S L/\Bh w ad a q ((Dd.bell b).run q S).2 L ((Dd.bell b).run q S).1 H Q
def BD (w:World) (ad:Ad):Sp:=λvs H Q _=>∃ (a:YA) (q:YP) (S:YS) (L:Nat) (b:Bool),vs=[.ref a.y,.int (sdI b)]/\Rdy w ad H a q S L/\Bh w ad a q ((Dd.lie b).run q S).2 L ((Dd.lie b).run q S).1 H Q
def zA (w:World) (ad:Ad):Sp:=λvs H Q _=>∃ (a:YA) (q:YP) (S:YS) (L:Nat) (b:Bool),vs=[.ref a.y,.int (sdI b)]/\Rdy w ad H a q S L/\Bh w ad a q ((Dd.look b).run q S).2 L ((Dd.look b).run q S).1 H Q
theorem Cc {ad:Ad}{H H':Hp}{y:YA}{q:YP}{S:YS}{b:Bool}(Y:Yn w ad.bx ad.dQ ad.bu ad.cr ad.aJ H y q S) (st:StT w ad.aJ H' y.sa (S.m.putAllY (S.rs b)) (ba S.rs b [])) (kp:Kp [y.sa.l b,y.sa.hd] H H'):Yn w ad.bx ad.dQ ad.bu ad.cr ad.aJ H' y q (S.fence b):=Y.parts (Y.x.store st kp) kp sE
theorem yw {ad:Ad}{H H':Hp}{y:YA}{q:YP}{S:YS}{b:Bool}{x:Wr}(Y:Yn w ad.bx ad.dQ ad.bu ad.cr ad.aJ H y q S) (st:StT w ad.aJ H' y.sa S.m (ba S.rs b (S.rs b++[x]))) (kp:Kp [y.sa.l b] H H'):Yn w ad.bx ad.dQ ad.bu ad.cr ad.aJ H' y q (S.wr b x):=Y.parts (Y.x.store (b:=b) st (kp.mono λc hc=>by rw[mem_singleton.mp hc];exact mem_cons_self)) kp λc hc=>sE (b:=b) c (by rw[mem_singleton.mp hc];exact mem_cons_self)
theorem GF {y:YA}{H H':Hp}{b:Bool}(kp:Kp [y.sa.l b,y.sa.hd] H H'):KO y.own H H':=KO.of_kp kp λc hc=>.inr (.inl (sE c hc))
theorem FL {y:YA}{H H':Hp}{b:Bool}(kp:Kp [y.sa.l b] H H'):KO y.own H H':=KO.of_kp kp λc hc=>.inr (.inl (sE (b:=b) c (by rw[mem_singleton.mp hc];exact mem_cons_self)))
theorem zX (G:Gs K mg a d):FnOk P w K mg base CX0 8 a.cw d.cw ["self","side"] (zA w a):=by
 have c_Yard_something_waits:FnOk P w K mg base CX0 7 _ _ _ _:=yI G;have c_Store_write:FnOk P w K mg base CX0 1 _ _ _ _:=(kj G).imp λvs H Q E=>yU
 refine G.pC.ok oC (λvs H Q E h=>?_) (λcdv A' outer s' H vs Q E hr h=>?_)
 . obtain⟨y,q,S,L,b,rfl,_⟩:=h;rfl
 . obtain⟨y,q,S,L,b,rfl,Rd,k⟩:=h;have Y:=Rd.y;have ll:=Rd.l;have rl:=Rd.i.len;have hu:=eZ hr;refine⟨_,((aL ((uH (fT (bT (ak (pv 0) rfl))) (qe (fT (bT (aB (pv 0) G.am G.i7 c_Yard_something_waits (hr.mono (by decide)) G.iL .nil ay ((pv 1)∣a9))))))).pt ((@iI _ _ _ _ _ _ ai (nX (ak (pv 0) rfl) (pv 1) ig) (by rfl) (by rfl) (by rfl))∪(eg⁻¹)) aj)∪((@b6 _ _ _ _ (aB (ak (pv 0) rfl) G.aA G.cX c_Store_write (hr.mono (by decide)) G.dO .nil ay ((pv 1)∣((@ax _ _ _ _ _ _ _ ar (iZ (v:=.ref a.aQ) (by rfl) G.f9 rfl) (pv 1) (λ_ _=>rfl))∣(ac∣a9)))) (by rfl))∪((@iI _ _ _ _ _ _ ai (nX (ak (pv 0) rfl) (pv 1) ig) (by rfl) (by rfl) (by rfl))∪(eg⁻¹)))),?_⟩;have bad:¬ (q.fk=true/\swT q S b=true)->Q (.bl false) (upd H y.sl (.lst [.str (ba S.bd b .asleep false).key,.str (ba S.bd b .asleep true).key])):=λhn=>by
    have k2:=k;rw[show (Dd.look b).run q S=_ from if_neg hn]at k2;exact k2 (.bl false) _ (Y.setSl b .asleep rfl) ⟨Rd.i.und,Rd.i.tkd,λc=>by have:=rl c;show (S.rs c).length <= _;omega,by have:=Rd.i.hl;show S.hs.length <= _;omega⟩ rfl (pI (.inr (.inr (.inl rfl))))
   refine⟨_,rfl,fY Y.ob G.am G.gJ D5 ⟨_,rfl,?_⟩⟩;cases hfk:q.fk with
  |false =>
    refine fX ?_;exact⟨_,rfl,fY Y.ob G.am G.aM bN ⟨_,rfl,y.sl,_,_,_,rfl,rfl,Y.sl,xw,by rw[show (V.str "asleep":V)=.str (Bd.key .asleep) from rfl,ss];exact bad (by rw[hfk];exact λz=>by cases z.1)⟩⟩
  |true =>
    refine cU ?_;refine⟨_,rfl,gO Y.ob (jM (by decide +kernel)) ⟨_,rfl,y,q,S,b,rfl,Y,Rd.ok,_,rfl,?_⟩⟩;cases hw:swT q S b with
   |false =>
     refine fX ?_;exact⟨_,rfl,fY Y.ob G.am G.aM bN ⟨_,rfl,y.sl,_,_,_,rfl,rfl,Y.sl,xw,by rw[show (V.str "asleep":V)=.str (Bd.key .asleep) from rfl,ss];exact bad (by rw[hw];exact λz=>by cases z.2)⟩⟩
   |true =>
     refine cU ?_;refine⟨_,rfl,fY Y.ob G.am G.aG cL (gO Y.x.st.ob (bW (by decide +kernel) (by decide +kernel)) ⟨_,rfl,_,rfl,a.aQ,_,sdI b,.str (jl b).key,rfl,rfl,G.fg _,vx,y.sa,S.m,S.rs,b,.str (jl b).key,.int 0,.c (jl b) 0,rfl,Y.x.st,by have:=rl b;omega,kS (xl _),rfl,trivial,λH1 st1 kp1=>?_⟩)⟩;have Y1:=yw Y st1 kp1;refine⟨_,rfl,fY Y1.ob G.am G.aM bN ⟨_,rfl,y.sl,_,_,_,rfl,rfl,Y1.sl,xw,?_⟩⟩;rw[show (V.str "up":V)=.str (Bd.key .up) from rfl,ss];have Y2:=Y1.setSl b .up rfl;have k2:=k;rw[show (Dd.look b).run q S=_ from if_pos ⟨hfk,hw⟩]at k2;exact k2 (.bl true) _ Y2 ⟨Rd.i.und,Rd.i.tkd,iU rl b (by rw[List.length_append];have:=rl b;show _+1 <= _;omega),by have:=Rd.i.hl;show S.hs.length <= _;omega⟩ rfl (re (FL kp1) (pI (.inr (.inr (.inl rfl)))))
theorem AT (G:Gs K mg a d):FnOk P w K mg base CX0 8 a.de d.de ["self","side"] (BD w a):=by
 have c_Store_write:FnOk P w K mg base CX0 1 _ _ _ _:=(kj G).imp λvs H Q E=>yU
 have c_Store_fence:FnOk P w K mg base CX0 2 _ _ _ _:=(vS G).imp λvs H Q E=>Ce
 refine G.qE.ok p7 (λvs H Q E h=>?_) (λcdv A' outer s' H vs Q E hr h=>?_)
 . obtain⟨y,q,S,L,b,rfl,_⟩:=h;rfl
 . obtain⟨y,q,S,L,b,rfl,Rd,k⟩:=h;have Y:=Rd.y;have ll:=Rd.l;have rl:=Rd.i.len;have hu:=eZ hr;refine⟨_,((@b6 _ _ _ _ (aB (ak (pv 0) rfl) G.aA G.cX c_Store_write (hr.mono (by decide)) G.dO .nil ay ((pv 1)∣((@ax _ _ _ _ _ _ _ ar (iZ (v:=.ref a.aQ) (by rfl) G.f9 rfl) (pv 1) (λ_ _=>rfl))∣(ac∣a9)))) (by rfl))∪(@gA _ _ _ _ _ (aL (bT (ak (pv 0) rfl)) (@ap _ _ _ (@b6 _ _ _ _ (aB (ak (pv 0) rfl) G.aA G.jC c_Store_fence (hr.mono (by decide)) G.l5 .nil ay ((pv 1)∣a9)) (by rfl))) aj)
    (@ap _ _ _ (@iI _ _ _ _ _ _ ai (nX (ak (pv 0) rfl) (pv 1) ig) (by rfl) (by rfl) (by rfl))))),?_⟩
   refine⟨_,rfl,fY Y.ob G.am G.aG cL (gO Y.x.st.ob (bW (by decide +kernel) (by decide +kernel)) ⟨_,rfl,_,rfl,a.aQ,_,sdI b,.str (jl b).key,rfl,rfl,G.fg _,vx,y.sa,S.m,S.rs,b,.str (jl b).key,.int 1,.c (jl b) 1,rfl,Y.x.st,by have:=rl b;omega,kS (xl _),rfl,trivial,λH1 st1 kp1=>?_⟩)⟩;have Y1:=yw Y st1 kp1;have rl1:∀ c,((S.wr b (.c (jl b) 1)).rs c).length <= L+2:=iU rl b (by rw[List.length_append];have:=rl b;show _+1 <= _;omega);refine⟨λσ' H'=>σ'=[some (.ref y.y),some (.int (sdI b))]/\KO y.own H H'/\∃ S2:YS,S2=(if q.fl then (S.wr b (.c (jl b) 1)).fence b else S.wr b (.c (jl b) 1))/\Yn w a.bx a.dQ a.bu a.cr a.aJ H' y q S2,?_,?_⟩
   . refine⟨_,rfl,fY Y1.ob G.am G.fZ Fy ⟨_,rfl,?_⟩⟩;cases hfl:q.fl with
    |true =>
      refine fX ?_;refine⟨_,rfl,fY Y1.ob G.am G.aG cL (gO Y1.x.st.ob (bW (by decide +kernel) (by decide +kernel)) ⟨_,rfl,y.sa,_,_,b,rfl,Y1.x.st,by have:=rl1 b;omega,λH2 st2 kp2=>⟨rfl,re (FL kp1) (GF kp2),_,rfl,Cc Y1 st2 kp2⟩⟩)⟩
    |false=>exact cU ⟨rfl,FL kp1,_,rfl,Y1⟩
   . rintro σ' H2 ⟨rfl,ko,S2,hS2,Y2⟩;refine⟨_,rfl,fY Y2.ob G.am G.aM bN ⟨_,rfl,y.sl,_,_,_,rfl,rfl,Y2.sl,xw,?_⟩⟩;rw[show (V.str "lies":V)=.str (Bd.key .lies) from rfl,ss];have Y3:=Y2.setSl b .lies rfl;have k2:Bh w a y q { S2 with bd:=ba S2.bd b .lies } L .none H Q:=by rw[hS2];exact k
     have hun:S2.un=S.un/\S2.tk=S.tk/\S2.hs=S.hs/\∀ c,(S2.rs c).length <= L+2:=by
      rw[hS2];cases q.fl with
     |true =>
       refine⟨rfl,rfl,rfl,λc=>?_⟩;show (ba _ b [] c).length <= _;by_cases e:c=b
       . subst e;rw[aD];exact zero_le _
       . rw[bF e];exact rl1 c
     |false=>exact⟨rfl,rfl,rfl,rl1⟩
     exact k2 .non _ Y3 ⟨by show Nms _ S2.un;rw[hun.1];exact Rd.i.und,by show Nms _ S2.tk;rw[hun.2.1];exact Rd.i.tkd,hun.2.2.2,by have:=Rd.i.hl;show S2.hs.length <= _;rw[hun.2.2.1];omega⟩ rfl (re ko (pI (.inr (.inr (.inl rfl)))))
theorem zm (G:Gs K mg a d):FnOk P w K mg base CX0 8 a.cG d.cG ["self","side"] (zg w a):=by
 have c_Store_write:FnOk P w K mg base CX0 1 _ _ _ _:=(kj G).imp λvs H Q E=>yU
 have c_Store_fence:FnOk P w K mg base CX0 2 _ _ _ _:=(vS G).imp λvs H Q E=>Ce
 have c_Store_read:FnOk P w K mg base CX0 2 _ _ _ _:=(l7 G).imp λvs H Q E=>F0
 refine G.pq.ok ja (λvs H Q E h=>?_) (λcdv A' outer s' H vs Q E hr h=>?_)
 . obtain⟨y,q,S,L,b,rfl,_⟩:=h;rfl
 . obtain⟨y,q,S,L,b,rfl,Rd,k⟩:=h;have Y:=Rd.y;have ll:=Rd.l;have rl:=Rd.i.len;have hu:=eZ hr;refine⟨_,((@aK _ _ 2 _ _ _ _ ja.nd rfl (Or.inl rfl) (@aN _ _ _ _ _ _ _ _ kM ac (pv 1)) (by rfl) (by exact .inl rfl))∪(@gA _ _ _ _ _ (aL (bT (ak (pv 0) rfl)) (@ap _ _ _ (@b6 _ _ _ _ (aB (ak (pv 0) rfl) G.aA G.jC c_Store_fence (hr.mono (by decide)) G.l5 .nil ay ((pv 1)∣a9)) (by rfl))) aj)
    ((@iI _ _ _ _ _ _ eg (nX (ak (pv 0) rfl) (pv 1) ig) (by rfl) (by rfl) (by rfl))∪((aL (ao (u9 hr.units) (aB (ak (pv 0) rfl) G.aA G.bH c_Store_read (hr.mono (by decide)) G.bY .nil ay ((pv 1)∣((@ax _ _ _ _ _ _ _ ar (iZ (v:=.ref a.aQ) (by rfl) G.f9 rfl) (pv 2) (λ_ _=>rfl))∣a9))) ac (av _)) (eg⁻¹) aj)∪(@gA _ _ _ _ _ (aL (ao cm (@ax _ _ _ _ _ _ _ bo (ak (pv 0) rfl) (pv 2) (λ_ _=>rfl)) ai (av _)) ((@iI _ _ _ _ _ _ ai (nX (ak (pv 0) rfl) (pv 2) ig) (by rfl) (by rfl) (by rfl))∪(@ap _ _ _ (@b6 _ _ _ _ (aB (ak (pv 0) rfl) G.aA G.cX c_Store_write (hr.mono (by decide)) G.dO .nil ay ((pv 2)∣((@ax _ _ _ _ _ _ _ ar (iZ (v:=.ref a.aQ) (by rfl) G.f9 rfl) (pv 2) (λ_ _=>rfl))∣(ac∣a9)))) (by rfl)))) aj)
    (eg⁻¹)))))),?_⟩
   refine⟨_,rfl,_,_,rfl,rfl,?_⟩;refine⟨λσ' H'=>σ'=[some (.ref y.y),some (.int (sdI b)),some (.int (sdI (!b)))]/\KO y.own H H'/\∃ S1:YS,S1=(if q.fb then S.fence b else S)/\Yn w a.bx a.dQ a.bu a.cr a.aJ H' y q S1,?_,?_⟩
   . refine⟨_,rfl,fY Y.ob G.am G.fQ CG ⟨_,rfl,?_⟩⟩;cases hfb:q.fb with
    |true =>
      refine fX ?_;refine⟨_,rfl,fY Y.ob G.am G.aG cL (gO Y.x.st.ob (bW (by decide +kernel) (by decide +kernel)) ⟨_,rfl,y.sa,_,_,b,rfl,Y.x.st,by have:=rl b;omega,λH2 st2 kp2=>⟨by rw[<-wc];rfl,GF kp2,_,rfl,Cc Y st2 kp2⟩⟩)⟩
    |false=>exact cU ⟨by rw[<-wc];rfl,KO.refl _ _,_,rfl,Y⟩
   . rintro σ' H1 ⟨rfl,ko1,S1,hS1,Y1⟩;refine⟨_,rfl,fY Y1.ob G.am G.f8 qC ⟨_,rfl,y.qu,_,_,jN b,rfl,rfl,Y1.qu,xw,?_⟩⟩;rw[Fw];have Y2:=Y1.setQu b true rfl;have ko2:KO y.own H (upd H1 y.qu (.lst [V.bl (ba S1.qt b true false),V.bl (ba S1.qt b true true)])):=re ko1 (pI (.inr (.inr (.inr (.inl rfl)))));generalize upd H1 y.qu (.lst [V.bl (ba S1.qt b true false),V.bl (ba S1.qt b true true)])=H2 at Y2 ko2 |-;obtain⟨S2,hS2⟩:∃ S2:YS,S2={ S1 with qt:=ba S1.qt b true }:=⟨_,rfl⟩
     rw[<-hS2]at Y2;have fS:S2.un=S.un/\S2.tk=S.tk/\S2.hs=S.hs/\(∀ c,(S2.rs c).length <= L):=by
      rw[hS2,hS1];cases q.fb with
     |true =>
       refine⟨rfl,rfl,rfl,λc=>?_⟩;show (ba S.rs b [] c).length <= _;by_cases e:c=b
       . subst e;rw[aD];exact zero_le _
       . rw[bF e];exact rl c
     |false=>exact⟨rfl,rfl,rfl,rl⟩
     have yi:YI q S2 (L+2):=⟨by rw[fS.1];exact Rd.i.und,by rw[fS.2.1];exact Rd.i.tkd,λc=>by have:=fS.2.2.2 c;omega,by rw[fS.2.2.1];have:=Rd.i.hl;omega⟩
     have hrun:(Dd.bell b).run q S=(if rdC S2.m (S2.rs b) (jl (!b))≠1 then (.bool false,S2) else if S2.bd (!b)=.asleep then (.bool true,({ S2 with bd:=ba S2.bd (!b) .up }:YS).wr (!b) (.c (jl (!b)) 0)) else (.bool true,S2)):=by rw[hS2,hS1];rfl
     rw[hrun]at k;clear hrun hS2 hS1 Y1 ko1;refine⟨_,rfl,fY Y2.ob G.am G.aG cL (gO Y2.x.st.ob (bW (by decide +kernel) (by decide +kernel)) ⟨_,rfl,_,rfl,a.aQ,_,sdI (!b),.str (jl (!b)).key,rfl,rfl,G.fg _,vx,y.sa,_,_,b,jl (!b),rfl,Y2.x.st,?_⟩)⟩;refine⟨.int (rdC S2.m (S2.rs b) (jl (!b))),.int 1,rfl,rfl,mF.int _,mF.int _,_,rfl,?_⟩;simp only[if_true];by_cases h1:rdC S2.m (S2.rs b) (jl (!b))=1
     . rw[if_neg (by rw[h1];exact λz=>z rfl)]at k;refine cf ?_ ?_
       . rw[h1];decide +kernel
       refine⟨λσ' H'=>σ'=[some (.ref y.y),some (.int (sdI b)),some (.int (sdI (!b)))]/\Q (.bl true) H',?_,?_⟩
       . refine⟨_,rfl,fY Y2.ob G.am G.aM bN ⟨_,rfl,y.sl,_,_,_,rfl,rfl,SqL.of Y2.sl,zx (!b),rfl,_,rfl,?_⟩⟩;by_cases h2:S2.bd (!b)=.asleep
         . rw[if_pos h2]at k;refine ic (decide_eq_true (by rw[h2];rfl)) ?_;refine⟨_,rfl,fY Y2.ob G.am G.aM bN ⟨_,rfl,y.sl,_,_,jN (!b),rfl,rfl,Y2.sl,xw,?_⟩⟩;rw[show (V.str "up":V)=.str (Bd.key .up) from rfl,ss];have Y3:=Y2.setSl (!b) .up rfl;have ko3:KO y.own H (upd H2 y.sl (.lst [V.str (ba S2.bd (!b) .up false).key,V.str (ba S2.bd (!b) .up true).key])):=re ko2 (pI (.inr (.inr (.inl rfl))));generalize upd H2 y.sl (.lst [V.str (ba S2.bd (!b) .up false).key,V.str (ba S2.bd (!b) .up true).key])=H3 at Y3 ko3 |-;refine⟨_,rfl,fY Y3.ob G.am G.aG cL (gO Y3.x.st.ob (bW (by decide +kernel) (by decide +kernel)) ⟨_,rfl,_,rfl,a.aQ,_,sdI (!b),.str (jl (!b)).key,rfl,rfl,G.fg _,vx,y.sa,_,_,!b,.str (jl (!b)).key,.int 0,.c (jl (!b)) 0,rfl,Y3.x.st,by have:=fS.2.2.2 (!b);show (S2.rs (!b)).length < _;omega,kS (xl _),rfl,trivial,λH4 st4 kp4=>⟨rfl,?_⟩⟩)⟩;have Y4:=yw Y3 st4 kp4;exact k (.bl true) H4 Y4 ⟨yi.und,yi.tkd,iU fS.2.2.2 (!b) (by show (S2.rs (!b)++[_]).length <= _;rw[List.length_append];have:=fS.2.2.2 (!b);show _+1 <= _;omega),yi.hl⟩ rfl (re ko3 (FL kp4))
         . rw[if_neg h2]at k;refine cf (by rw[decide_eq_true_eq];exact D7 h2) ⟨rfl,?_⟩;exact k (.bl true) H2 Y2 yi rfl ko2
       . rintro σ' H' ⟨rfl,k'⟩;exact k'
     . rw[if_pos h1]at k;refine ic ?_ (k (.bl false) H2 Y2 yi rfl ko2);rw[not_eq_true'];cases z:PyData.eqv (.int (rdC S2.m (S2.rs b) (jl (!b)))) (.int 1) with
      |false=>rfl
      |true=>exact absurd (by have:=(MX.eqv_iff _ _ rfl rfl).mp z;injection this) h1
theorem Cv {q:YP}{S:YS}{wt:Int}(h:(Dd.ask wt).chk q S=none):az q.p S.m (S.rs false) .asked .taken≠q.p.s/\bw q.n S.un≠none:=by
 have h':(if S.bd false=.up then (if az q.p S.m (S.rs false) .asked .taken=q.p.s then some Rf.full else match bw q.n S.un with|none=>some Rf.name|some _=>none) else some Rf.deed)=none:=h;split at h'
 . split at h'
   . cases h'
   . rename_i z;refine⟨z,λy=>?_⟩;rw[y]at h';cases h'
 . cases h'
theorem Dq {q:YP}{S:YS}{nm wt:Int}(h:(Dd.answer nm wt).chk q S=none):S.tk.contains nm≠false/\az q.p S.m (S.rs true) .answered .handed≠q.p.s:=by
 have h':(if S.bd true=.up then (if S.tk.contains nm=false then some Rf.task else if az q.p S.m (S.rs true) .answered .handed=q.p.s then some Rf.full else none) else some Rf.deed)=none:=h;split at h'
 . split at h'
   . cases h'
   . split at h'
     . cases h'
     . rename_i z1 z2;exact⟨z1,z2⟩
 . cases h'
theorem zI {q:YP}{S:YS}{b:Bool}(h:(Dd.drain b).chk q S=none):∃ x rest,S.rs b=x :: rest:=by
 cases e:S.rs b with
|cons x rest=>exact⟨x,rest,rfl⟩
|nil =>
  have h':(if S.rs b=[] then some Rf.deed else none)=none:=h;rw[e]at h';cases h'
def DX (w:World) (ad:Ad):Sp:=λvs H Q E=>∃ (a:YA) (q:YP) (S:YS) (L:Nat) (x:Dd) (t:Addr),vs=[.ref a.y,.ref t]/\Rdy w ad H a q S L/\H t=some (.tup x.vs)/\x.Ok /\
 match x.chk q S with
|none=>Bh w ad a q (x.run q S).2 L (x.run q S).1 H Q
|some r=>∀ H',bG H H'->E (.ref (rfC ad r)) none H'
theorem CL (G:Gs K mg a d):FnOk P w K mg base (CXv P w) 10 a.fw d.fw ["self","some"] (DX w a):=by
 have cx_Yard_check:FnOk P w K mg base (CXv P w) 8 _ _ _ _:=zq G;have c_Yard_do_ask:FnOk P w K mg base CX0 9 _ _ _ _:=AW G;have c_Yard_do_answer:FnOk P w K mg base CX0 9 _ _ _ _:=AL G;have c_Yard_do_bell:FnOk P w K mg base CX0 8 _ _ _ _:=zm G;have c_Yard_do_lie:FnOk P w K mg base CX0 8 _ _ _ _:=AT G;have c_Yard_do_look:FnOk P w K mg base CX0 8 _ _ _ _:=zX G;have c_Yard_tell_fetched:FnOk P w K mg base CX0 1 _ _ _ _:=Db G;have c_Hand_collect:FnOk P w K mg base CX0 7 _ _ _ _:=(wD G).imp λvs H Q E=>Ba
 have c_Heart_take:FnOk P w K mg base CX0 7 _ _ _ _:=(BK G).imp λvs H Q E=>Gv
 have c_Store_drain:FnOk P w K mg base CX0 1 _ _ _ _:=(vH G).imp λvs H Q E=>drainT
 refine G.uq.okX (k:=9) mj (λvs H Q E h=>?_) (λcdv A' outer s' H vs Q E hr hR h=>?_)
 . obtain⟨y,q,S,L,x,t,rfl,_⟩:=h;rfl
 . obtain⟨y,q,S,L,x,t,rfl,Rd,ht,hx,k⟩:=h;have hu:=eZ hr;refine⟨_,((@b6 _ _ _ _ (aB (pv 0) G.am G.rH cx_Yard_check (hr.mono (by decide)) G.tz .nil hR.passes ((pv 1)∣a9)) (by rfl))∪((@aK _ _ 2 _ _ _ _ mj.nd rfl (Or.inl rfl) (@ax _ _ _ _ _ _ _ ar (pv 1) ac (λ_ _=>rfl)) (by rfl) (by exact .inl rfl))∪((aL (ao cm (pv 2) ai (av _)) ((aB (pv 0) G.am G.oM c_Yard_do_ask (hr.mono (by decide)) G.rJ .nil ay ((@ax _ _ _ _ _ _ _ ar (pv 1) ac (λ_ _=>rfl))∣a9))⁻¹) aj)∪((aL (ao cm (pv 2) ai (av _)) ((aB (pv 0) G.am G.f6 c_Yard_tell_fetched (hr.mono (by decide)) G.fP .nil ay (ai∣((bf (ak (pv 0) rfl) G.bE G.nO c_Hand_collect (hr.mono (by decide)) G.oP .nil ay)∣a9)))⁻¹) aj)∪((aL (ao cm (pv 2) ai (av _)) ((aB (pv 0) G.am G.f6 c_Yard_tell_fetched (hr.mono (by decide)) G.fP .nil ay (ai∣((bf (ak (pv 0) rfl) G.bI G.rV c_Heart_take (hr.mono (by decide)) G.sy .nil ay)∣a9)))⁻¹) aj)∪((aL (ao cm (pv 2) ai (av _)) ((aB (pv 0) G.am G.ln c_Yard_do_answer (hr.mono (by decide)) G.mr .nil ay ((@ax _ _ _ _ _ _ _ ar (pv 1) ac (λ_ _=>rfl))∣((@ax _ _ _ _ _ _ _ ar (pv 1) ac (λ_ _=>rfl))∣a9)))⁻¹) aj)∪((aL (ao cm (pv 2) ai (av _)) ((aB (pv 0) G.am G.nI c_Yard_do_bell (hr.mono (by decide)) G.ph .nil ay ((@ax _ _ _ _ _ _ _ ar (pv 1) ac (λ_ _=>rfl))∣a9))⁻¹) aj)∪((aL (ao cm (pv 2) ai (av _)) ((aB (pv 0) G.am G.pK c_Yard_do_lie (hr.mono (by decide)) G.qX .nil ay ((@ax _ _ _ _ _ _ _ ar (pv 1) ac (λ_ _=>rfl))∣a9))⁻¹) aj)∪((aL (ao cm (pv 2) ai (av _)) ((aB (pv 0) G.am G.oi c_Yard_do_look (hr.mono (by decide)) G.oO .nil ay ((@ax _ _ _ _ _ _ _ ar (pv 1) ac (λ_ _=>rfl))∣a9))⁻¹) aj)∪((aB (ak (pv 0) rfl) G.aA G.jx c_Store_drain (hr.mono (by decide)) G.kZ .nil ay ((@ax _ _ _ _ _ _ _ ar (pv 1) ac (λ_ _=>rfl))∣a9))⁻¹)))))))))),?_⟩;refine⟨_,rfl,gO Rd.y.ob (jM (by decide +kernel)) ⟨_,rfl,y,q,S,x,t,rfl,Rd.y,Rd.ok,ht,hx,λH1 e1=>?_⟩⟩;cases hc:x.chk q S with
  |some r =>
    rw[hc]at k;exact k H1 e1
  |none =>
    rw[hc]at k;have Rd1:Rdy w a H1 y q S L:=⟨Rd.y.same e1,Rd.ok,Rd.i,Rd.l⟩
    have k1:Bh w a y q (x.run q S).2 L (x.run q S).1 H1 Q:=λv H' Y' i' dv ko=>k v H' Y' i' dv (re (KO.of_same e1) ko)
    have ht1:=e1 _ _ ht;clear k ht Rd e1;refine⟨_,rfl,t,_,_,_,rfl,rfl,SqT.of ht1,by rw[x.vs_eq];exact aq,?_⟩;cases x with
   |ask wt =>
     refine⟨_,rfl,rfl,_,rfl,ic (decide_eq_true rfl) ?_⟩;obtain⟨c1,c2⟩:=Cv hc;exact⟨_,rfl,gO Rd1.y.ob (jM (by decide +kernel)) ⟨_,rfl,t,_,_,_,rfl,rfl,SqT.of ht1,rfl,y,q,S,L,wt,rfl,Rd1,c1,c2,k1⟩⟩
   |collect =>
     refine⟨_,rfl,rfl,_,rfl,cf (by rw[decide_eq_true_eq];exact sne (show ¬ (("collect":Str)="ask") by decide +kernel)) ?_⟩;refine⟨_,rfl,rfl,_,rfl,ic (decide_eq_true rfl) ?_⟩;refine⟨_,rfl,gO Rd1.y.ob (jM (by decide +kernel)) ⟨_,rfl,fY Rd1.y.ob G.am G.dI o3 (gO Rd1.y.x.hn.ob wX ⟨y.z,y.sa,q.p,_,S.un,S.m,S.rs,rfl,Rd1.y.x.hn,Rd1.y.x.st,Rd1.ok.ok,by have:=Rd1.i.len false;have:=Rd1.l;omega,?_⟩)⟩⟩;have rl:=Rd1.i.len;have hsl:=Rd1.i.hl;have ll:=Rd1.l;unfold Dd.run at k1;by_cases h0:az q.p S.m (S.rs false) .answered .handed=0
     . rw[if_pos h0]at k1 |-;exact⟨y,q,S,"handed",.non,rfl,Rd1.y,by omega,.inl ⟨rfl,k1 .non H1 Rd1.y (Rd1.i.mono (by omega)) rfl (KO.refl _ _)⟩⟩
     . rw[if_neg h0]at k1 |-;have rl2:∀ c,(ba S.rs false (S.rs false++[dl q.p S.m (S.rs false) .handed]) c).length <= L+2:=iU rl false (by rw[List.length_append];have:=rl false;show _+1 <= _;omega);cases hrd:rdP S.m (S.rs false) true (rdC S.m (S.rs false) .handed % q.p.s) with
      |none =>
        rw[hrd]at k1;intro c H2 hc2 hn2 st2 kp2;have Y2:=Rd1.y.parts (Rd1.y.x.hand hn2 st2 kp2) kp2 pV;refine⟨y,q,_,"handed",.ref c,rfl,Y2,by show S.hs.length < _;omega,.inr ⟨c,.non,.non,.none,.none,rfl,hc2,rfl,rfl,rfl,rfl,λH3 Y3 ko3 hc3=>k1 (.ref c) H3 Y3 ⟨Rd1.i.und,Rd1.i.tkd,rl2,?_⟩ ⟨c,_,rfl,hc3,_,_,rfl,rfl,_,_,rfl,rfl,rfl⟩ (re (KO.of_kp kp2 λc hc=>.inr (.inl (pV c hc))) ko3)⟩⟩;show (S.hs++[_]).length <= _;rw[List.length_append];show _+1 <= _;omega
      |some nw =>
        rw[hrd]at k1;intro c H2 hc2 hn2 st2 kp2;have Y2:=Rd1.y.parts (Rd1.y.x.hand hn2 st2 kp2) kp2 pV;refine⟨y,q,_,"handed",.ref c,rfl,Y2,by show S.hs.length < _;omega,.inr ⟨c,.int nw.1,.int nw.2,.int nw.1,.int nw.2,rfl,hc2,rfl,rfl,rfl,rfl,λH3 Y3 ko3 hc3=>k1 (.ref c) H3 Y3 ⟨Rd1.i.und.filter,Rd1.i.tkd,rl2,?_⟩ (DV2 hc3) (re (KO.of_kp kp2 λc hc=>.inr (.inl (pV c hc))) ko3)⟩⟩;show (S.hs++[_]).length <= _;rw[List.length_append];show _+1 <= _;omega
   |take =>
     refine⟨_,rfl,rfl,_,rfl,cf (by rw[decide_eq_true_eq];exact sne (show ¬ (("take":Str)="ask") by decide +kernel)) ?_⟩;refine⟨_,rfl,rfl,_,rfl,cf (by rw[decide_eq_true_eq];exact sne (show ¬ (("take":Str)="collect") by decide +kernel)) ?_⟩;refine⟨_,rfl,rfl,_,rfl,ic (decide_eq_true rfl) ?_⟩;refine⟨_,rfl,gO Rd1.y.ob (jM (by decide +kernel)) ⟨_,rfl,fY Rd1.y.ob G.am G.cN kY (gO Rd1.y.x.tn.ob DP ⟨y.zt,y.sa,q.p,S.tk,S.m,S.rs,rfl,Rd1.y.x.tn,Rd1.y.x.st,Rd1.ok.ok,by have:=Rd1.i.tkd.len (by omega);omega,by have:=Rd1.i.len true;have:=Rd1.l;omega,?_⟩)⟩⟩;have rl:=Rd1.i.len;have hsl:=Rd1.i.hl;have ll:=Rd1.l;unfold Dd.run at k1;by_cases h0:az q.p S.m (S.rs true) .asked .taken=0
     . rw[if_pos h0]at k1 |-;exact⟨y,q,S,"taken",.non,rfl,Rd1.y,by omega,.inl ⟨rfl,k1 .non H1 Rd1.y (Rd1.i.mono (by omega)) rfl (KO.refl _ _)⟩⟩
     . rw[if_neg h0]at k1 |-;have rl2:∀ c,(ba S.rs true (S.rs true++[dl q.p S.m (S.rs true) .taken]) c).length <= L+2:=iU rl true (by rw[List.length_append];have:=rl true;show _+1 <= _;omega);cases hrd:rdP S.m (S.rs true) false (rdC S.m (S.rs true) .taken % q.p.s) with
      |none =>
        rw[hrd]at k1;intro c H2 hc2 tn2 st2 kp2;have Y2:=Rd1.y.parts (Rd1.y.x.heart tn2 st2 kp2) kp2 pO;refine⟨y,q,_,"taken",.ref c,rfl,Y2,by show S.hs.length < _;omega,.inr ⟨c,.non,.non,.none,.none,rfl,hc2,rfl,rfl,rfl,rfl,λH3 Y3 ko3 hc3=>k1 (.ref c) H3 Y3 ⟨Rd1.i.und,Rd1.i.tkd,rl2,?_⟩ ⟨c,_,rfl,hc3,_,_,rfl,rfl,_,_,rfl,rfl,rfl⟩ (re (KO.of_kp kp2 λc hc=>.inr (.inl (pO c hc))) ko3)⟩⟩;show (S.hs++[_]).length <= _;rw[List.length_append];show _+1 <= _;omega
      |some nw =>
        rw[hrd]at k1;intro c H2 hc2 tn2 st2 kp2;have Y2:=Rd1.y.parts (Rd1.y.x.heart tn2 st2 kp2) kp2 pO;have nok:0 <= nw.1/\nw.1 < 9:=Rd1.y.x.st.names hrd;refine⟨y,q,_,"taken",.ref c,rfl,Y2,by show S.hs.length < _;omega,.inr ⟨c,.int nw.1,.int nw.2,.int nw.1,.int nw.2,rfl,hc2,rfl,rfl,rfl,rfl,λH3 Y3 ko3 hc3=>k1 (.ref c) H3 Y3 ⟨Rd1.i.und,Rd1.i.tkd.next nok,rl2,?_⟩ (DV2 hc3) (re (KO.of_kp kp2 λc hc=>.inr (.inl (pO c hc))) ko3)⟩⟩;show (S.hs++[_]).length <= _;rw[List.length_append];show _+1 <= _;omega
   |answer nm wt =>
     refine⟨_,rfl,rfl,_,rfl,cf (by rw[decide_eq_true_eq];exact sne (show ¬ (("answer":Str)="ask") by decide +kernel)) ?_⟩;refine⟨_,rfl,rfl,_,rfl,cf (by rw[decide_eq_true_eq];exact sne (show ¬ (("answer":Str)="collect") by decide +kernel)) ?_⟩;refine⟨_,rfl,rfl,_,rfl,cf (by rw[decide_eq_true_eq];exact sne (show ¬ (("answer":Str)="take") by decide +kernel)) ?_⟩;refine⟨_,rfl,rfl,_,rfl,ic (decide_eq_true rfl) ?_⟩;obtain⟨c1,c2⟩:=Dq hc;exact⟨_,rfl,gO Rd1.y.ob (jM (by decide +kernel)) ⟨_,rfl,t,_,_,_,rfl,rfl,SqT.of ht1,rfl,_,rfl,t,_,_,_,rfl,rfl,SqT.of ht1,rfl,y,q,S,L,nm,wt,rfl,Rd1,c1,c2,k1⟩⟩
   |bell b =>
     refine⟨_,rfl,rfl,_,rfl,cf (by rw[decide_eq_true_eq];exact sne (show ¬ (("bell":Str)="ask") by decide +kernel)) ?_⟩;refine⟨_,rfl,rfl,_,rfl,cf (by rw[decide_eq_true_eq];exact sne (show ¬ (("bell":Str)="collect") by decide +kernel)) ?_⟩;refine⟨_,rfl,rfl,_,rfl,cf (by rw[decide_eq_true_eq];exact sne (show ¬ (("bell":Str)="take") by decide +kernel)) ?_⟩;refine⟨_,rfl,rfl,_,rfl,cf (by rw[decide_eq_true_eq];exact sne (show ¬ (("bell":Str)="answer") by decide +kernel)) ?_⟩;refine⟨_,rfl,rfl,_,rfl,ic (decide_eq_true rfl) ?_⟩;exact⟨_,rfl,gO Rd1.y.ob (jM (by decide +kernel)) ⟨_,rfl,t,_,_,_,rfl,rfl,SqT.of ht1,rfl,y,q,S,L,b,rfl,Rd1,k1⟩⟩
   |lie b =>
     refine⟨_,rfl,rfl,_,rfl,cf (by rw[decide_eq_true_eq];exact sne (show ¬ (("lie":Str)="ask") by decide +kernel)) ?_⟩;refine⟨_,rfl,rfl,_,rfl,cf (by rw[decide_eq_true_eq];exact sne (show ¬ (("lie":Str)="collect") by decide +kernel)) ?_⟩;refine⟨_,rfl,rfl,_,rfl,cf (by rw[decide_eq_true_eq];exact sne (show ¬ (("lie":Str)="take") by decide +kernel)) ?_⟩;refine⟨_,rfl,rfl,_,rfl,cf (by rw[decide_eq_true_eq];exact sne (show ¬ (("lie":Str)="answer") by decide +kernel)) ?_⟩;refine⟨_,rfl,rfl,_,rfl,cf (by rw[decide_eq_true_eq];exact sne (show ¬ (("lie":Str)="bell") by decide +kernel)) ?_⟩;refine⟨_,rfl,rfl,_,rfl,ic (decide_eq_true rfl) ?_⟩;exact⟨_,rfl,gO Rd1.y.ob (jM (by decide +kernel)) ⟨_,rfl,t,_,_,_,rfl,rfl,SqT.of ht1,rfl,y,q,S,L,b,rfl,Rd1,k1⟩⟩
   |look b =>
     refine⟨_,rfl,rfl,_,rfl,cf (by rw[decide_eq_true_eq];exact sne (show ¬ (("look":Str)="ask") by decide +kernel)) ?_⟩;refine⟨_,rfl,rfl,_,rfl,cf (by rw[decide_eq_true_eq];exact sne (show ¬ (("look":Str)="collect") by decide +kernel)) ?_⟩;refine⟨_,rfl,rfl,_,rfl,cf (by rw[decide_eq_true_eq];exact sne (show ¬ (("look":Str)="take") by decide +kernel)) ?_⟩;refine⟨_,rfl,rfl,_,rfl,cf (by rw[decide_eq_true_eq];exact sne (show ¬ (("look":Str)="answer") by decide +kernel)) ?_⟩;refine⟨_,rfl,rfl,_,rfl,cf (by rw[decide_eq_true_eq];exact sne (show ¬ (("look":Str)="bell") by decide +kernel)) ?_⟩;refine⟨_,rfl,rfl,_,rfl,cf (by rw[decide_eq_true_eq];exact sne (show ¬ (("look":Str)="lie") by decide +kernel)) ?_⟩;refine⟨_,rfl,rfl,_,rfl,ic (decide_eq_true rfl) ?_⟩;exact⟨_,rfl,gO Rd1.y.ob (jM (by decide +kernel)) ⟨_,rfl,t,_,_,_,rfl,rfl,SqT.of ht1,rfl,y,q,S,L,b,rfl,Rd1,k1⟩⟩
   |drain b =>
     refine⟨_,rfl,rfl,_,rfl,cf (by rw[decide_eq_true_eq];exact sne (show ¬ (("drain":Str)="ask") by decide +kernel)) ?_⟩;refine⟨_,rfl,rfl,_,rfl,cf (by rw[decide_eq_true_eq];exact sne (show ¬ (("drain":Str)="collect") by decide +kernel)) ?_⟩;refine⟨_,rfl,rfl,_,rfl,cf (by rw[decide_eq_true_eq];exact sne (show ¬ (("drain":Str)="take") by decide +kernel)) ?_⟩;refine⟨_,rfl,rfl,_,rfl,cf (by rw[decide_eq_true_eq];exact sne (show ¬ (("drain":Str)="answer") by decide +kernel)) ?_⟩;refine⟨_,rfl,rfl,_,rfl,cf (by rw[decide_eq_true_eq];exact sne (show ¬ (("drain":Str)="bell") by decide +kernel)) ?_⟩;refine⟨_,rfl,rfl,_,rfl,cf (by rw[decide_eq_true_eq];exact sne (show ¬ (("drain":Str)="lie") by decide +kernel)) ?_⟩;refine⟨_,rfl,rfl,_,rfl,cf (by rw[decide_eq_true_eq];exact sne (show ¬ (("drain":Str)="look") by decide +kernel)) ?_⟩;obtain⟨x,rest,hb⟩:=zI hc;have rl:=Rd1.i.len;have k2:Bh w a y q { S with m:=S.m.put x,rs:=ba S.rs b rest } L .none H1 Q:=by
      have e:(Dd.drain b).run q S=(.none,{ S with m:=S.m.put x,rs:=ba S.rs b rest }):=by
       show (match S.rs b with|x :: rest=>_|[]=>_)=_;rw[hb]
      rw[e]at k1;exact k1
     refine⟨_,rfl,fY Rd1.y.ob G.am G.aG cL (gO Rd1.y.x.st.ob (bW (by decide +kernel) (by decide +kernel)) ⟨_,rfl,t,_,_,_,rfl,rfl,SqT.of ht1,rfl,y.sa,S.m,S.rs,b,x,rest,rfl,Rd1.y.x.st,hb,λH2 st2 kp2=>?_⟩)⟩;refine k2 .non H2 (Rd1.y.parts (Rd1.y.x.store st2 kp2) kp2 sE) ⟨Rd1.i.und,Rd1.i.tkd,iU rl b (by have:=rl b;rw[hb,length_cons]at this;omega),by have:=Rd1.i.hl;show S.hs.length <= _;omega⟩ rfl (GF kp2)
def BB:Sp:=λvs H Q _=>∃ (b:Addr) (ns:List Int) (m:Nat),vs=[.ref b,.int m]/\H b=some (.lst (ns.map V.int))/\ns.length <= 63/\∀ (p:Addr) (cs:List Int) (H':Hp),bG H H'->H p=none->H' p=some (.lst (cs.map V.int))->cs.length <= m->(∀ c∈cs,0 <= c/\c < 1000000)->Q (.ref p) H'
theorem e6p:(10:Int) ^ (6:Int).toNat=1000000:=by decide
theorem HX {r:Int}{n:Nat}(h0:0 < r) (h1:r < 1000000 ^ n):∃ m,n=m+1/\0 <= r / 1000000/\r / 1000000 < 1000000 ^ m:=by
 cases n with
|zero=>rw[Int.pow_zero]at h1;omega
|succ m =>
  refine⟨m,rfl,by omega,?_⟩;rw[Int.pow_succ]at h1;exact Int.ediv_lt_of_lt_mul (by decide) h1
theorem Do {cs:List Int}{c:Int}:(cs.map V.int)++[V.int c]=(cs++[c]).map V.int:=by rw[map_append];rfl
theorem Cf {cs:List Int}{r:Int}(h:∀ c∈cs,0 <= c/\c < 1000000):∀ c∈cs++[r % 1000000],0 <= c/\c < 1000000:=λc hc=>by
 rcases mem_append.mp hc with y|y
 . exact h c y
 . rw[mem_singleton.mp y];exact⟨emod_nonneg _ (by decide),emod_lt_of_pos _ (by decide)⟩
theorem Bo (G:Gs K mg a d):FnOk P w K mg base CX0 1 a.fE d.fE ["cells","most"] BB:=by
 refine G.ou.ok dF (λvs H Q E h=>?_) (λcdv A' outer s' H vs Q E hr h=>?_)
 . obtain⟨b,ns,m,rfl,_⟩:=h;rfl
 . obtain⟨b,ns,m,rfl,hb,hl,k⟩:=h;refine⟨_,((@aK _ _ 2 _ _ _ _ dF.nd rfl (Or.inl rfl) (@bV _ _ _ _ a9) (by rfl) (by exact .inl rfl))∪((iJ PassesOwn.never rfl (eV (pv 0)) (aR (i:=3) dF.nd rfl (Or.inl rfl)) ((@aK _ _ 4 _ _ _ _ dF.nd rfl (Or.inl rfl) (@aN _ _ _ _ _ _ _ _ bS (pv 3) (@aN _ _ _ _ _ _ _ _ jz ac ac)) (by rfl) (by exact .inl rfl))∪((@b6 _ _ _ _ (@lO _ _ _ _ _ _ _ _ _ _ _ _ PySem.F.plainAttrs_list PySem.F.slot_list_append PySem.F.type_list_append cZ (pv 2) ((@aN _ _ _ _ _ _ _ _ bS (pv 4) (@aN _ _ _ _ _ _ _ _ jz ac ac))∣a9) (by rfl) (by rfl) (by rfl) (by rfl) (by rfl)) (by rfl))∪((@aK _ _ 4 _ _ _ _ dF.nd rfl (Or.inl rfl) (@aN _ _ _ _ _ _ _ _ cp (pv 4) (@aN _ _ _ _ _ _ _ _ jz ac ac)) (by rfl) (by exact .inl rfl))∪(@ap _ _ _ (vJ PassesOwn.never (ao BJ (pv 4) ac (av _)) ((@b6 _ _ _ _ (@lO _ _ _ _ _ _ _ _ _ _ _ _ PySem.F.plainAttrs_list PySem.F.slot_list_append PySem.F.type_list_append cZ (pv 2) ((@aN _ _ _ _ _ _ _ _ bS (pv 4) (@aN _ _ _ _ _ _ _ _ jz ac ac))∣a9) (by rfl) (by rfl) (by rfl) (by rfl) (by rfl)) (by rfl))∪(@ap _ _ _ (@aK _ _ 4 _ _ _ _ dF.nd rfl (Or.inl rfl) (@aN _ _ _ _ _ _ _ _ cp (pv 4) (@aN _ _ _ _ _ _ _ _ jz ac ac)) (by rfl) (by exact .inl rfl))))))))))∪((mK yk (pv 2) uI (nk (pv 1)))⁻¹))),?_⟩;refine⟨rE,λp hp=>?_⟩;have e1:=ag (o:=.lst []) hp;have v1:upd H p (.lst []) p=some (.lst (([]:List Int).map V.int)):=a6;generalize upd H p (.lst [])=H1 at e1 v1 |-;have nb:b≠p:=λz=>by rw[z,hp]at hb;cases hb
   refine⟨_,rfl,b,rfl,⟨_,SqL.of (e1 _ _ hb)⟩,?_⟩;refine gf (K:=K) (a:=b) (xs:=ns.map V.int) (λi σ H2=>∃ (cs:List Int),(∃ v3 v4,σ=[some (.ref b),some (.int m),some (.ref p),v3,v4])/\cs.length <= 10 * i/\(∀ c∈cs,0 <= c/\c < 1000000)/\H2 p=some (.lst (cs.map V.int))/\(∀ c o,c≠p->H1 c=some o->H2 c=some o))
    ⟨[],⟨_,_,rfl⟩,Nat.le_refl _,(λ_ z=>absurd z not_mem_nil),v1,λ_ _ _ e=>e⟩ (λ_ _ _ _ ⟨_,_,_,_,_,z⟩=>SqL.of (z _ _ nb (e1 _ _ hb))) ?_ ?_
   . rintro i x σ H2 hi ⟨cs,⟨v3,v4,rfl⟩,cl,cok,v2,k2⟩;have hi6:i < 63:=by have:=(List.getElem?_eq_some_iff.mp hi).1;rw[length_map]at this;omega
     obtain⟨c,rfl⟩:∃ c,x=.int c:=by
      rw[getElem?_map]at hi;cases e:ns[i]? with
     |none=>rw[e]at hi;cases hi
     |some c=>rw[e]at hi;cases hi;exact⟨c,rfl⟩
     refine⟨_,rfl,_,_,rfl,rfl,⟨by decide,by decide,by decide⟩,_,_,rfl,rfl,by show (0:Int) < 10 ^ (60:Int).toNat;decide,?_⟩;obtain⟨r0,hr0⟩:∃ r0,r0=c % 10 ^ (60:Int).toNat:=⟨_,rfl⟩
     have r0n:0 <= r0:=by rw[hr0];exact emod_nonneg _ (by decide)
     have r0l:r0 < 1000000 ^ 10:=by rw[hr0];exact emod_lt_of_pos _ (by decide)
     show jg 4 (V.int (c % 10 ^ (60:Int).toNat)) _ _ _;rw[<-hr0];refine⟨_,rfl,.inl ⟨rfl,_,SqL.of v2⟩,_,rfl,_,_,rfl,rfl,⟨by decide,by decide,by decide⟩,_,_,rfl,rfl,by show (0:Int) < 10 ^ (6:Int).toNat;decide,p,_,_,rfl,rfl,v2,Nat.lt_of_lt_of_le (show _ < 1000 by rw[length_map];omega) (by decide),?_⟩;refine⟨_,rfl,_,_,rfl,rfl,⟨by decide,by decide,by decide⟩,_,_,rfl,rfl,by rw[e6p];exact⟨by decide,by decide⟩,?_⟩;refine⟨λn σ H3=>∃ (cs:List Int) (r:Int),σ=[some (.ref b),some (.int m),some (.ref p),some (.int c),some (.int r)]/\0 <= r/\r < 1000000 ^ n/\cs.length+n <= 10 * (i+1)/\(∀ c∈cs,0 <= c/\c < 1000000)/\H3 p=some (.lst (cs.map V.int))/\(∀ c o,c≠p->H1 c=some o->H3 c=some o),
      ⟨9,cs++[r0 % 1000000],r0 / 1000000,by rw[<-e6p];rfl,by omega,Int.ediv_lt_of_lt_mul (by decide) (Int.lt_of_lt_of_le r0l (by decide)),by rw[List.length_append];show _+1+9 <= _;omega,Cf cok,by rw[a6,<-Do,<-e6p],λc o n e=>by rw[aa n];exact k2 c o n e⟩,?_⟩
     rintro n σ H3 ⟨cs3,r,rfl,rn,rl,cl3,cok3,v3,k3⟩;refine⟨_,rfl,_,_,rfl,rfl,_,rfl,?_⟩;refine wI (λhgo=>?_) (λhstop=>?_)
     . have hr:0 < r:=of_decide_eq_true hgo;obtain⟨n',rfl,q0,q1⟩:=HX hr rl;refine⟨_,λσ' H' z=>z,?_⟩;refine⟨_,rfl,.inl ⟨rfl,_,SqL.of v3⟩,_,rfl,_,_,rfl,rfl,⟨by decide,by decide,by decide⟩,_,_,rfl,rfl,by show (0:Int) < 10 ^ (6:Int).toNat;decide,p,_,_,rfl,rfl,v3,Nat.lt_of_lt_of_le (show _ < 1000 by rw[length_map];omega) (by decide),?_⟩;refine⟨_,rfl,_,_,rfl,rfl,⟨by decide,by decide,by decide⟩,_,_,rfl,rfl,by rw[e6p];exact⟨by decide,by decide⟩,?_⟩;exact⟨n',lt_succ_self _,cs3++[r % 1000000],r / 1000000,by rw[<-e6p];rfl,q0,q1,by rw[List.length_append];show _+1+n' <= _;omega,Cf cok3,by rw[a6,<-Do,<-e6p],λc o n e=>by rw[aa n];exact k3 c o n e⟩
     . exact⟨cs3,⟨_,_,rfl⟩,by omega,cok3,v3,k3⟩
   . rintro σ H2 ⟨cs,⟨v3,v4,rfl⟩,cl,cok,v2,k2⟩;refine⟨_,rfl,_,rfl,(m:Int),rfl,p,_,rfl,SqL.of v2,λq hq=>?_⟩;have e2:bG H H2:=λc o e=>k2 c o (ae e hp) (e1 _ _ e)
     rw[Aq,<-List.map_take];exact k q (cs.take m) _ (e2.trans (ag hq)) (b9 e2 hq) a6 (by rw[length_take];omega) λc hc=>cok c (List.mem_of_mem_take hc)
def zp:Sp:=λvs H Q _=>∃ c:Int,vs=[.int c]/\0 <= c/\c < 1000000/\∀ (g:Int) (H':Hp),-1000000000 <= g->g <= 1000000000->bG H H'->Q (.int g) H'
def Bn:Sp:=λvs H Q _=>∃ (c:Int) (p:Addr) (ts:List Int),vs=[.int c,.ref p]/\0 <= c/\c < 1000000/\H p=some (.lst (ts.map V.int))/\∀ (x:Dd) (t:Addr) (H':Hp),x.Ok->H t=none->H' t=some (.tup x.vs)->bG H H'->Q (.ref t) H'
theorem zd (G:Gs K mg a d):FnOk P w K mg base CX0 1 a.fI d.fI ["code"] zp:=by
 refine G.jU.ok rY (λvs H Q E h=>?_) (λcdv A' outer s' H vs Q E hr h=>?_)
 . obtain⟨c,rfl,_⟩:=h;rfl
 . obtain⟨c,rfl,c0,c1,k⟩:=h;refine⟨_,((aL (ao cm (@aN _ _ _ _ _ _ _ _ bS (pv 0) ac) ac (av _)) ((@aN _ _ _ _ _ _ _ _ kM (@aN _ _ _ _ _ _ _ _ bS (@aN _ _ _ _ _ _ _ _ cp (pv 0) ac) ac) ac)⁻¹) aj)∪((aL (ao cm (@aN _ _ _ _ _ _ _ _ bS (pv 0) ac) ac (av _)) ((@aN _ _ _ _ _ _ _ _ kM (@aN _ _ _ _ _ _ _ _ bS (@aN _ _ _ _ _ _ _ _ qm (pv 0) ac) (@aN _ _ _ _ _ _ _ _ o8 (@aN _ _ _ _ _ _ _ _ qm ac (@aN _ _ _ _ _ _ _ _ jz ac ac)) ac)) (@aN _ _ _ _ _ _ _ _ jz ac ac))⁻¹) aj)∪((@ax _ _ _ _ _ _ _ bo (@bV _ _ _ _ ((@aN _ _ _ _ _ _ _ _ jz ac ac)∣((Ff C3 (@aN _ _ _ _ _ _ _ _ jz ac ac))∣(ac∣(ac∣a9))))) (@aN _ _ _ _ _ _ _ _ bS (@aN _ _ _ _ _ _ _ _ cp (pv 0) ac) ac) (λ_ _=>rfl))⁻¹))),?_⟩;have e9:(10:Int) ^ (9:Int).toNat=1000000000:=by decide
   refine⟨_,rfl,_,_,rfl,rfl,(show (0:Int) < 3 from by decide),rfl,_,rfl,?_⟩;refine wI (λ_=>?_) (λ_=>?_)
   . refine⟨_,rfl,_,_,rfl,rfl,⟨by decide,by decide⟩,_,_,rfl,rfl,(show (0:Int) < 9 from by decide),_,_,rfl,rfl,?_⟩;exact k _ _ (by show -1000000000 <= c / 3 % 9 - 4;omega) (by show c / 3 % 9 - 4 <= _;omega) λ_ _ e=>e
   . refine⟨_,rfl,_,_,rfl,rfl,(show (0:Int) < 3 from by decide),rfl,_,rfl,?_⟩;refine wI (λ_=>?_) (λ_=>?_)
     . refine⟨_,rfl,_,_,rfl,rfl,lv c0 (by omega),?_⟩;refine⟨_,_,rfl,rfl,⟨by decide,by decide,by decide⟩,_,_,rfl,rfl,lv (by decide) (by decide),_,_,rfl,rfl,_,_,rfl,rfl,by show (0:Int) < 2 * 10 ^ (9:Int).toNat+1;decide,_,_,rfl,rfl,⟨by decide,by decide,by decide⟩,_,_,rfl,rfl,?_⟩;have f0:=emod_nonneg (c * 2001) (show (2 * 10 ^ (9:Int).toNat+1:Int)≠0 by decide);have f1:=emod_lt_of_pos (c * 2001) (show (0:Int) < 2 * 10 ^ (9:Int).toNat+1 by decide);rw[e9]at f0 f1;exact k _ _ (by show _ <= c * 2001 % (2 * 10 ^ (9:Int).toNat+1) - 10 ^ (9:Int).toNat;rw[e9];omega) (by show c * 2001 % (2 * 10 ^ (9:Int).toNat+1) - 10 ^ (9:Int).toNat <= _;rw[e9];omega) λ_ _ e=>e
     . refine⟨_,_,rfl,rfl,⟨by decide,by decide,by decide⟩,_,_,rfl,rfl,⟨by decide,by decide,by decide⟩,_,rfl,(by show 4 <= sizeLine;decide),λp hp=>?_⟩;refine⟨_,rfl,_,_,rfl,rfl,⟨by decide,by decide⟩,_,_,rfl,rfl,(show (0:Int) < 4 from by decide),?_⟩;have g0:=emod_nonneg (c / 3) (show (4:Int)≠0 by decide);have g1:=emod_lt_of_pos (c / 3) (show (0:Int) < 4 by decide);obtain⟨v,hv,v0,v1⟩:∃ v:Int,atI [V.int (10 ^ (9:Int).toNat),V.int (-(10 ^ (9:Int).toNat)),V.int 0,V.int 1] (c / 3 % 4)=some (.int v)/\-1000000000 <= v/\v <= 1000000000:=by
        have:c / 3 % 4=0\/c / 3 % 4=1\/c / 3 % 4=2\/c / 3 % 4=3:=by omega
        rcases this with h|h|h|h<;>rw[h]
        . exact⟨_,rfl,by rw[e9];omega,by rw[e9];omega⟩
        . exact⟨_,rfl,by rw[e9];omega,by rw[e9];omega⟩
        . exact⟨_,rfl,by omega,by omega⟩
        . exact⟨_,rfl,by omega,by omega⟩
       exact⟨p,_,_,_,rfl,rfl,SqL.of a6,hv,k v _ v0 v1 (ag hp)⟩
theorem w9 {g:Int}(h0:0 <= g) (h1:g < 9):∃ wd:Str,atI [V.str "ask",V.str "ask",V.str "ask",V.str "collect",V.str "collect",V.str "take",V.str "take",V.str "answer",V.str "answer"] g=some (.str wd)/\(wd="ask"\/wd="collect"\/wd="take"\/wd="answer"):=by
 have:g=0\/g=1\/g=2\/g=3\/g=4\/g=5\/g=6\/g=7\/g=8:=by omega
 rcases this with rfl|rfl|rfl|rfl|rfl|rfl|rfl|rfl|rfl
 . exact⟨_,rfl,.inl rfl⟩
 . exact⟨_,rfl,.inl rfl⟩
 . exact⟨_,rfl,.inl rfl⟩
 . exact⟨_,rfl,.inr (.inl rfl)⟩
 . exact⟨_,rfl,.inr (.inl rfl)⟩
 . exact⟨_,rfl,.inr (.inr (.inl rfl))⟩
 . exact⟨_,rfl,.inr (.inr (.inl rfl))⟩
 . exact⟨_,rfl,.inr (.inr (.inr rfl))⟩
 . exact⟨_,rfl,.inr (.inr (.inr rfl))⟩
theorem w7 {g:Int}(h0:0 <= g) (h1:g < 7) (b:Bool):∃ (wd:Str) (x:Dd),atI [V.str "bell",V.str "bell",V.str "lie",V.str "look",V.str "drain",V.str "drain",V.str "drain"] g=some (.str wd)/\x.vs=[.str wd,.int (sdI b)]/\x.Ok:=by
 have:g=0\/g=1\/g=2\/g=3\/g=4\/g=5\/g=6:=by omega
 rcases this with rfl|rfl|rfl|rfl|rfl|rfl|rfl
 . exact⟨_,.bell b,rfl,rfl,trivial⟩
 . exact⟨_,.bell b,rfl,rfl,trivial⟩
 . exact⟨_,.lie b,rfl,rfl,trivial⟩
 . exact⟨_,.look b,rfl,rfl,trivial⟩
 . exact⟨_,.drain b,rfl,rfl,trivial⟩
 . exact⟨_,.drain b,rfl,rfl,trivial⟩
 . exact⟨_,.drain b,rfl,rfl,trivial⟩
theorem Eo {g:Int}:∃ b,g % 2=sdI b:=by
 have:=emod_nonneg g (show (2:Int)≠0 by decide);have:=emod_lt_of_pos g (show (0:Int) < 2 by decide);by_cases h:g % 2=0
 . exact⟨false,h⟩
 . exact⟨true,by show g % 2=1;omega⟩
theorem AZ (G:Gs K mg a d):FnOk P w K mg base CX0 2 a.hZ d.hZ ["code","tasks"] Bn:=by
 have c_law_worth:FnOk P w K mg base CX0 1 _ _ _ _:=zd G;refine G.pS.ok fN (λvs H Q E h=>?_) (λcdv A' outer s' H vs Q E hr h=>?_)
 . obtain⟨c,p,ts,rfl,_⟩:=h;rfl
 . obtain⟨c,p,ts,rfl,c0,c1,hp,k⟩:=h;have hu:=eZ hr;refine⟨_,((@aK _ _ 2 _ _ _ _ fN.nd rfl (Or.inl rfl) (@ax _ _ _ _ _ _ _ bo (@bV _ _ _ _ (ai∣(ai∣(ai∣(ai∣(ai∣(ai∣(ai∣(ai∣(ai∣a9)))))))))) (@aN _ _ _ _ _ _ _ _ bS (@aN _ _ _ _ _ _ _ _ bS (pv 0) ac) ac) (λ_ _=>rfl)) (by rfl) (by exact .inl rfl))∪((@aK _ _ 3 _ _ _ _ fN.nd rfl (Or.inl rfl) (@aN _ _ _ _ _ _ _ _ bS (@aN _ _ _ _ _ _ _ _ cp (pv 0) ac) ac) (by rfl) (by exact .inl rfl))∪((aL (ao BJ (@aN _ _ _ _ _ _ _ _ bS (pv 0) ac) ac (av _)) ((@aO _ _ _ _ _ ((@ax _ _ _ _ _ _ _ bo (@bV _ _ _ _ (ai∣(ai∣(ai∣(ai∣(ai∣(ai∣(ai∣a9)))))))) (@aN _ _ _ _ _ _ _ _ kM (@aN _ _ _ _ _ _ _ _ bS (pv 0) ac) ac) (λ_ _=>rfl))∣((pv 3)∣a9)))⁻¹) aj)∪((aL (ao cm (pv 2) ai (av _)) ((@aO _ _ _ _ _ ((pv 2)∣((aS c_law_worth (hr.mono (by decide)) (by rfl) G.oh G.jU.kp G.oj .nil ay ((@aN _ _ _ _ _ _ _ _ cp (pv 0) ac)∣a9))∣a9)))⁻¹) aj)∪((aL (ao rQ (pv 2) ai (av _)) ((@aO _ _ _ _ _ ((pv 2)∣a9))⁻¹) aj)∪((@aK _ _ 4 _ _ _ _ fN.nd rfl (Or.inl rfl) (@aN _ _ _ _ _ _ _ _ bS (@aN _ _ _ _ _ _ _ _ cp (pv 0) ac) ac) (by rfl) (by exact .inl rfl))∪(@gA _ _ _ _ _ (aL (ao (B6 hr.units) (pv 1) (@bV _ _ _ _ a9) (av _)) (@ap _ _ _ (@aK _ _ 4 _ _ _ _ fN.nd rfl (Or.inl rfl) (@ax _ _ _ _ _ _ _ bo (pv 1) (@aN _ _ _ _ _ _ _ _ bS (@aN _ _ _ _ _ _ _ _ cp (pv 0) ac) (aI bq (by rfl) G.lc gR ((pv 1)∣a9))) (λ_ _=>rfl)) (by rfl) (by exact .inl rfl))) aj)
    ((@aO _ _ _ _ _ ((pv 2)∣((pv 4)∣((aS c_law_worth (hr.mono (by decide)) (by rfl) G.oh G.jU.kp G.oj .nil ay ((@aN _ _ _ _ _ _ _ _ cp (pv 0) ac)∣a9))∣a9))))⁻¹)))))))),?_⟩
   have n0:=emod_nonneg c (show (16:Int)≠0 by decide);have n1:=emod_lt_of_pos c (show (0:Int) < 16 by decide);refine⟨by show 9 <= sizeLine;decide,λq hq=>⟨_,rfl,_,_,rfl,rfl,(show (0:Int) < 16 from by decide),_,_,rfl,rfl,(show (0:Int) < 9 from by decide),?_⟩⟩;obtain⟨wd,hwd,wdc⟩:=w9 (emod_nonneg (c % 16) (show (9:Int)≠0 by decide)) (emod_lt_of_pos (c % 16) (show (0:Int) < 9 by decide));refine⟨q,_,_,_,rfl,rfl,SqL.of a6,hwd,?_⟩;have e1:=ag (o:=.lst [V.str "ask",V.str "ask",V.str "ask",V.str "collect",V.str "collect",V.str "take",V.str "take",V.str "answer",V.str "answer"]) hq;generalize upd H q (.lst [V.str "ask",V.str "ask",V.str "ask",V.str "collect",V.str "collect",V.str "take",V.str "take",V.str "answer",V.str "answer"])=H1 at e1 |-;refine⟨_,rfl,_,_,rfl,rfl,⟨by decide,by decide⟩,_,_,rfl,rfl,(show (0:Int) < 2 from by decide),?_⟩;obtain⟨b,hb⟩:=Eo (g:=c / 16);refine⟨_,rfl,_,_,rfl,rfl,(show (0:Int) < 16 from by decide),_,_,rfl,rfl,_,rfl,?_⟩;have c16:0 <= c / 16/\c / 16 < 1000000:=⟨by omega,by omega⟩
   refine wI (λhg=>?_) (λ_=>?_)
   . have hg:8 < c % 16:=of_decide_eq_true hg;refine⟨by show 7 <= sizeLine;decide,λq2 hq2=>⟨_,rfl,_,_,rfl,rfl,(show (0:Int) < 16 from by decide),_,_,rfl,rfl,?_⟩⟩;obtain⟨wd2,x,hw2,xv,xo⟩:=w7 (g:=c % 16 - 9) (by omega) (by omega) b;refine⟨q2,_,_,_,rfl,rfl,SqL.of a6,hw2,_,rfl,l2,λt ht=>?_⟩;have e2:=ag (o:=.lst [V.str "bell",V.str "bell",V.str "lie",V.str "look",V.str "drain",V.str "drain",V.str "drain"]) hq2;exact k x t _ xo (b9 (e1.trans e2) ht) (by rw[a6,xv,<-hb]) ((e1.trans e2).trans (ag ht))
   refine⟨_,rfl,rfl,_,rfl,?_⟩;refine wI (λhg=>?_) (λhn1=>?_)
   . have hg:wd="ask":=by have:=of_decide_eq_true hg;injection this
     refine⟨_,rfl,_,rfl,_,_,rfl,rfl,⟨by decide,by decide⟩,c / 16,rfl,c16.1,c16.2,λg H2 g0 g1 e2=>⟨l2,λt ht=>?_⟩⟩;exact k (.ask g) t _ ⟨g0,g1⟩ (b9 (e1.trans e2) ht) (by rw[a6,hg];rfl) ((e1.trans e2).trans (ag ht))
   have hn1:wd≠"ask":=λz=>hn1 (decide_eq_true (by rw[z]))
   refine⟨_,rfl,rfl,_,rfl,?_⟩;refine wI (λhg=>?_) (λhn2=>?_)
   . have hg:wd≠"answer":=λz=>by rw[z]at hg;exact absurd hg (by decide +kernel)
     refine⟨_,rfl,by show 1 <= sizeLine;decide,λt ht=>?_⟩;rcases wdc with z|z|z|z
     . exact absurd z hn1
     . exact k .collect t _ trivial (b9 e1 ht) (by rw[a6,z];rfl) (e1.trans (ag ht))
     . exact k .take t _ trivial (b9 e1 ht) (by rw[a6,z];rfl) (e1.trans (ag ht))
     . exact absurd z hg
   have hn2:wd="answer":=by
    have:=Bool.eq_false_iff.mpr hn2;rw[Bool.not_eq_false',decide_eq_true_eq]at this;injection this
   subst hn2;refine⟨_,rfl,_,_,rfl,rfl,⟨by decide,by decide⟩,_,_,rfl,rfl,(show (0:Int) < 10 from by decide),?_⟩;refine⟨λσ' H'=>∃ nm:Int,σ'=[some (.int c),some (.ref p),some (.str "answer"),some (.int (c / 16 % 2)),some (.int nm)]/\bG H1 H',?_,?_⟩
   . refine⟨_,rfl,rE,λq3 hq3=>?_⟩;have e3:=ag (o:=.lst []) hq3;refine⟨p,q3,_,rfl,rfl,SqL.of (e3 _ _ (e1 _ _ hp)),SqL.of a6,_,rfl,?_⟩;refine wI (λhg=>?_) (λ_=>⟨_,rfl,e3⟩);have tl:0 < (ts.length:Int):=by
      cases ts with
     |nil=>exact absurd hg (by decide)
     |cons y ys=>rw[length_cons];omega
     refine⟨_,rfl,_,rfl,_,_,rfl,rfl,⟨by decide,by decide⟩,_,rfl,p,_,rfl,.inl (SqL.of (e3 _ _ (e1 _ _ hp))),_,_,rfl,rfl,by rw[length_map];exact tl,?_⟩;have i0:=emod_nonneg (c / 32) (show (ts.length:Int)≠0 by omega);have i1:=emod_lt_of_pos (c / 32) tl;obtain⟨v,hv,hm⟩:=FO (xs:=ts.map V.int) i0 (by rw[length_map];exact i1);obtain⟨nm,_,rfl⟩:=mem_map.mp hm;exact⟨p,_,_,_,rfl,rfl,SqL.of (e3 _ _ (e1 _ _ hp)),by show atI _ (c / 32 % ((ts.map V.int).length:Int))=_;rw[length_map];exact hv,nm,rfl,e3⟩
   . rintro σ' H2 ⟨nm,rfl,e2⟩;refine⟨_,rfl,_,rfl,_,rfl,_,_,rfl,rfl,⟨by decide,by decide⟩,c / 16,rfl,c16.1,c16.2,λg H3 g0 g1 e3=>⟨l3,λt ht=>?_⟩⟩;have e4:=(e1.trans e2).trans e3;exact k (.answer nm g) t _ ⟨g0,g1⟩ (b9 e4 ht) a6 (e4.trans (ag ht))
def ze (w:World) (ad:Ad):Sp:=λvs H Q _=>∃ (a:YA) (q:YP) (S:YS) (L:Nat) (x:Dd) (t:Addr),vs=[.ref a.y,.ref t]/\Rdy w ad H a q S L/\H t=some (.tup x.vs)/\x.Ok /\
 ∀ (v:V) (r:Addr) (H':Hp),Yn w ad.bx ad.dQ ad.bu ad.cr ad.aJ H' a q (x.out q S).2.2->YI q (x.out q S).2.2 (L+2)->DV H' (x.out q S).2.1 v->H r=none->H' r=some (.tup [.str (x.out q S).1,v])->KO a.own H H'->Q (.ref r) H'
theorem yG (G:Gs K mg a d):FnOk P w K mg base CX0 11 a.fR d.fR ["yard","deed"] (ze w a):=by
 have cx_Yard_deed:FnOk P w K mg base (CXv P w) 10 _ _ _ _:=CL G;refine G.n5.ok bX (λvs H Q E h=>?_) (λcdv A' outer s' H vs Q E hr h=>?_)
 . obtain⟨y,q,S,L,x,t,rfl,_⟩:=h;rfl
 . obtain⟨y,q,S,L,x,t,rfl,Rd,ht,hx,k⟩:=h;have hu:=eZ hr;refine⟨_,((@aK _ _ 2 _ _ _ _ bX.nd rfl (Or.inl rfl) cq (by rfl) (by exact .inl rfl))∪((@aK _ _ 3 _ _ _ _ bX.nd rfl (Or.inl rfl) ai (by rfl) (by exact .inl rfl))∪((Es ⟨rfl,rfl,rfl⟩ (λpins R=>by exact(@ap _ _ _ (@aK _ _ 2 _ _ _ _ bX.nd rfl (Or.inl rfl) (Ai rfl (pv 0) G.am G.sB cx_Yard_deed (hr.mono (by decide)) G.ue .nil ((pv 1)∣a9)) (by rfl) (by exact .inl rfl)))) (r9 ⟨rfl,rfl,rfl⟩ (by rfl) G.mT (λe=>by exact(@ap _ _ _ (@aK _ _ 3 _ _ _ _ bX.nd rfl (Or.inl rfl) ai (by rfl) (by exact .inl rfl)))) (r9 ⟨rfl,rfl,rfl⟩ (by rfl) G.zF (λe=>by exact(@ap _ _ _ (@aK _ _ 3 _ _ _ _ bX.nd rfl (Or.inl rfl) ai (by rfl) (by exact .inl rfl)))) (r9 ⟨rfl,rfl,rfl⟩ (by rfl) G.vX (λe=>by exact(@ap _ _ _ (@aK _ _ 3 _ _ _ _ bX.nd rfl (Or.inl rfl) ai (by rfl) (by exact .inl rfl)))) (r9 ⟨rfl,rfl,rfl⟩ (by rfl) G.wq (λe=>by exact(@ap _ _ _ (@aK _ _ 3 _ _ _ _ bX.nd rfl (Or.inl rfl) ai (by rfl) (by exact .inl rfl)))) ET)))))∪((@aO _ _ _ _ _ ((pv 3)∣((pv 2)∣a9)))⁻¹)))),?_⟩;have fl0:=BY (q:=q) (S:=S) x;refine⟨λσ' cls H'=>σ'=[some (.ref y.y),some (.ref t),some .non,some (.str "none")]/\bG H H'/\∃ r,x.chk q S=some r/\cls=.ref (rfC a r),?_,?_⟩
   . refine⟨_,rfl,gO Rd.y.ob (jM (by decide +kernel)) ⟨_,rfl,y,q,S,L,x,t,rfl,Rd,ht,hx,?_⟩⟩;cases hc:x.chk q S with
    |some r=>exact λH1 e1=>⟨rfl,e1,r,rfl,rfl⟩
    |none =>
      rw[Dd.out_none hc]at k fl0;intro v H1 Y1 i1 dv1 ko1;refine⟨_,rfl,_,rfl,l2,λr hr2=>?_⟩;have e2:=ag (o:=.tup [V.str "none",v]) hr2;refine k v r _ (Y1.same e2) i1 (DV.fl (λb vs e=>e2 b _ e) fl0 dv1) ?_ a6 (re ko1 (KO.of_same e2));cases hr0:H r with
     |none=>rfl
     |some o =>
       by_cases ho:y.own r
       . obtain⟨o',e',_⟩:=Y1.there ho;rw[e']at hr2;cases hr2
       . rw[ko1 r o ho hr0]at hr2;cases hr2
   . rintro σ' cls H1 ⟨rfl,e1,r,hc,rfl⟩;rw[Dd.out_some hc]at k;have fin:∀ (r':Addr),H1 r'=none->Q (.ref r') (upd H1 r' (.tup [V.str r.key,.non])):=λr' hr'=>by
      have e2:=ag (o:=.tup [V.str r.key,.non]) hr';exact k .non r' _ (Rd.y.same (e1.trans e2)) (Rd.i.mono (by omega)) rfl (b9 e1 hr') a6 (KO.of_same (e1.trans e2))
     cases r with
    |deed=>exact⟨true,G.Gj,⟨_,rfl,_,rfl,l2,fin⟩⟩
    |full=>exact⟨false,G.FY,true,G.FN,⟨_,rfl,_,rfl,l2,fin⟩⟩
    |name=>exact⟨false,G.GM,false,G.GR,true,G.Gh,⟨_,rfl,_,rfl,l2,fin⟩⟩
    |task=>exact⟨false,G.GH,false,G.GI,false,G.GL,true,G.FR,⟨_,rfl,_,rfl,l2,fin⟩⟩
def A8:Sp:=λvs H Q _=>∃ (p t r:Addr) (ts:List Int) (x:Dd) (key:Str) (d:PyData) (v:V),vs=[.ref p,.ref t,.ref r]/\H p=some (.lst (ts.map V.int))/\H t=some (.tup x.vs)/\H r=some (.tup [.str key,v])/\DV H d v/\(x.ftc->Fch d)/\ts.length < 1000 /\
 ∀ H',H' p=some (.lst ((x.aft ts key d).map V.int))->Kp [p] H H'->Q .non H'
theorem mR {ts:List Int}:(ts.map V.int).all pD=true:=by rw[all_eq_true];intro v hv;obtain⟨i,_,rfl⟩:=mem_map.mp hv;rfl
theorem A4 (G:Gs K mg a d):FnOk P w K mg base CX0 1 a.fL d.fL ["tasks","deed","told"] A8:=by
 refine G.oa.ok tW (λvs H Q E h=>?_) (λcdv A' outer s' H vs Q E hr h=>?_)
 . obtain⟨p,t,r,ts,x,key,dd,v,rfl,_⟩:=h;rfl
 . obtain⟨p,t,r,ts,x,key,dd,v,rfl,hp,ht,hr1,dv,fc,tl,k⟩:=h;have hu:=eZ hr;refine⟨_,((aL (ao rQ (@ax _ _ _ _ _ _ _ ar (pv 2) ac (λ_ _=>rfl)) ai (av _)) (@ap _ _ _ zP) aj)∪(@gA _ _ _ _ _ (aL ((m6 (ao cm (@ax _ _ _ _ _ _ _ ar (pv 1) ac (λ_ _=>rfl)) ai (av _)) (m6 (ao lH (@ax _ _ _ _ _ _ _ ar (pv 2) ac (λ_ _=>rfl)) cq (av _)) (m6 (ao lH (@ax _ _ _ _ _ _ _ ar (@ax _ _ _ _ _ _ _ ar (pv 2) ac (λ_ _=>rfl)) ac (λ_ _=>rfl)) cq (av _)) (lE (ao dG (@ax _ _ _ _ _ _ _ ar (@ax _ _ _ _ _ _ _ ar (pv 2) ac (λ_ _=>rfl)) ac (λ_ _=>rfl)) (pv 0) (by with_unfolding_all rfl))))))).pt (@ap _ _ _ (@b6 _ _ _ _ (@lO _ _ _ _ _ _ _ _ _ _ _ _ PySem.F.plainAttrs_list PySem.F.slot_list_append PySem.F.type_list_append cZ (pv 0) ((@ax _ _ _ _ _ _ _ ar (@ax _ _ _ _ _ _ _ ar (pv 2) ac (λ_ _=>rfl)) ac (λ_ _=>rfl))∣a9) (by rfl) (by rfl) (by rfl) (by rfl) (by rfl)) (by rfl))) aj)
    (@ap _ _ _ (aL ((m6 (ao cm (@ax _ _ _ _ _ _ _ ar (pv 1) ac (λ_ _=>rfl)) ai (av _)) (lE (ao eR (@ax _ _ _ _ _ _ _ ar (pv 1) ac (λ_ _=>rfl)) (pv 0) (by with_unfolding_all rfl))))).pt (@ap _ _ _ (@b6 _ _ _ _ (@lO _ _ _ _ _ _ _ _ _ _ _ _ PySem.F.plainAttrs_list PySem.F.slot_list_remove PySem.F.type_list_remove rZ (pv 0) ((@ax _ _ _ _ _ _ _ ar (pv 1) ac (λ_ _=>rfl))∣a9) (by rfl) (by rfl) (by rfl) (by rfl) (by rfl)) (by rfl))) aj)))),?_⟩
   refine⟨_,rfl,r,_,_,_,rfl,rfl,SqT.of hr1,aq,rfl,_,rfl,?_⟩;by_cases hk:key="none";rotate_left
   . refine ic (by rw[not_eq_true',decide_eq_false_iff_not];exact sne hk) ?_;exact k H (by rw[hp];unfold Dd.aft;rw[if_neg hk]) (Kp.refl _ _)
   subst hk;refine cf (by rw[decide_eq_true rfl];exact λz=>by cases z) ?_;have npr:p≠r:=λz=>by rw[z,hr1]at hp;cases hp
   have npt:p≠t:=λz=>by rw[z,ht]at hp;cases hp
   refine⟨λσ' H'=>σ'=[some (.ref p),some (.ref t),some (.ref r)]/\Kp [p] H H'/\∃ l1:List Int,H' p=some (.lst (l1.map V.int))/\((∃ nm wt,x=.answer nm wt)->l1=ts)/\((∀ nm wt,x≠.answer nm wt)->l1=x.aft ts "none" dd),?_,?_⟩
   . have stay:(∀ nm wt,x≠.answer nm wt)->x.aft ts "none" dd=ts->([some (V.ref p),some (.ref t),some (.ref r)]=[some (V.ref p),some (.ref t),some (.ref r)]/\Kp [p] H H/\∃ l1:List Int,H p=some (.lst (l1.map V.int))/\((∃ nm wt,x=.answer nm wt)->l1=ts)/\((∀ nm wt,x≠.answer nm wt)->l1=x.aft ts "none" dd)):=λ_ h2=>⟨rfl,Kp.refl _ _,ts,hp,λ_=>rfl,λ_=>h2.symm⟩
     refine⟨_,rfl,t,_,_,_,rfl,rfl,SqT.of ht,x.at0,rfl,_,rfl,?_⟩;rcases x.cls2 with rfl|⟨nm,wt,rfl⟩|⟨w1,w2,w3⟩
     . refine ic (decide_eq_true rfl) ?_;have na:∀ nm wt,Dd.take≠.answer nm wt:=λ_ _ z=>by cases z
       rcases(fc trivial).dv dv with⟨rfl,rfl⟩|⟨c,v1,v2,rfl,hc,⟨rfl,rfl,rfl⟩|⟨i,j,rfl,rfl,rfl⟩⟩
       . refine⟨_,rfl,r,_,_,_,rfl,rfl,SqT.of hr1,rfl,rfl,_,rfl,cU (cU ?_)⟩;exact stay na rfl
       . refine⟨_,rfl,r,_,_,_,rfl,rfl,SqT.of hr1,rfl,rfl,_,rfl,fX ?_⟩;refine⟨_,rfl,r,_,_,_,rfl,rfl,SqT.of hr1,rfl,c,_,_,_,rfl,rfl,SqT.of hc,rfl,rfl,_,rfl,cU (cU ?_)⟩;exact stay na rfl
       . refine⟨_,rfl,r,_,_,_,rfl,rfl,SqT.of hr1,rfl,rfl,_,rfl,fX ?_⟩;refine⟨_,rfl,r,_,_,_,rfl,rfl,SqT.of hr1,rfl,c,_,_,_,rfl,rfl,SqT.of hc,rfl,rfl,_,rfl,fX ?_⟩;refine⟨_,rfl,r,_,_,_,rfl,rfl,SqT.of hr1,rfl,c,_,_,_,rfl,rfl,SqT.of hc,rfl,_,rfl,p,_,rfl,.inl (SqL.of hp),rfl,mR,_,rfl,?_⟩;simp only[if_true];rw[lA];have ea:Dd.take.aft ts "none" (.tuple [.int i,.int j])=gM ts i:=rfl;cases hin:ts.contains i with
        |true =>
          refine cU (stay na ?_);rw[ea];unfold gM;rw[hin];rfl
        |false =>
          refine fX ?_;refine⟨_,rfl,.inl ⟨rfl,_,SqL.of hp⟩,_,rfl,r,_,_,_,rfl,rfl,SqT.of hr1,rfl,c,_,_,_,rfl,rfl,SqT.of hc,rfl,p,_,_,rfl,rfl,hp,Nat.lt_of_lt_of_le (show _ < 1000 by rw[length_map];exact tl) (by decide),?_⟩;refine⟨rfl,Kp.one,ts++[i],by rw[a6,Do],λ⟨_,_,z⟩=>absurd z (na _ _),λ_=>?_⟩;rw[ea];unfold gM;rw[hin];rfl
     . refine cf (by rw[decide_eq_true_eq];exact sne (show ¬ (("answer":Str)="take") by decide +kernel)) (cU ?_);exact⟨rfl,Kp.refl _ _,ts,hp,λ_=>rfl,λz=>absurd rfl (z nm wt)⟩
     . refine cf (by rw[decide_eq_true_eq];exact sne w1) (cU ?_);exact⟨rfl,Kp.refl _ _,ts,hp,λ_=>rfl,λ_=>(w3 _ _ _).symm⟩
   . rintro σ' H1 ⟨rfl,kp1,l1,h1,f1,f2⟩;have ht1:=kp1 _ _ (λz=>npt (mem_singleton.mp z).symm) ht;refine⟨_,rfl,t,_,_,_,rfl,rfl,SqT.of ht1,x.at0,rfl,_,rfl,?_⟩;rcases x.cls2 with rfl|⟨nm,wt,rfl⟩|⟨w1,w2,w3⟩
     . refine cf (by rw[decide_eq_true_eq];exact sne (show ¬ (("take":Str)="answer") by decide +kernel)) (cU ?_);rw[f2 λ_ _ z=>by cases z]at h1;exact k H1 h1 kp1
     . refine ic (decide_eq_true rfl) ?_;have e1:=f1 ⟨_,_,rfl⟩;subst e1;refine⟨_,rfl,t,_,_,_,rfl,rfl,SqT.of ht1,rfl,_,rfl,p,_,rfl,.inl (SqL.of h1),rfl,mR,_,rfl,?_⟩;simp only[false_eq_true,if_false];rw[lA];have ea:(Dd.answer nm wt).aft l1 "none" dd=l1.erase nm:=rfl;rw[ea]at k;cases hin:l1.contains nm with
      |true =>
        refine fX ?_;refine⟨_,rfl,.inl ⟨rfl,_,SqL.of h1⟩,_,rfl,t,_,_,_,rfl,rfl,SqT.of ht1,rfl,p,l1,nm,rfl,rfl,h1,by rw[contains_eq_mem]at hin;exact of_decide_eq_true hin,?_⟩;exact k _ a6 (kp1.trans Kp.one)
      |false =>
        refine cU ?_;refine k H1 ?_ kp1;rw[List.erase_of_not_mem (by rw[contains_eq_mem]at hin;exact of_decide_eq_false hin)];exact h1
     . refine cf (by rw[decide_eq_true_eq];exact sne w2) (cU ?_);rw[f2 λnm wt z=>by rw[z]at w2;exact w2 rfl]at h1;exact k H1 h1 kp1
theorem vR {xs us vs:List Int}(h1:us.Perm xs) (h2:us.Pairwise (· <= ·)) (h3:vs.Perm xs) (h4:vs.Pairwise (· <= ·)):us=vs :=
 List.Perm.eq_of_pairwise (λa b _ _ p q=>Int.le_antisymm p q) h2 h4 (h1.trans h3.symm)
theorem Ch:∀ {ds:List PyData},(∀ d∈ds,MX.kd d=true/\d.depth <= 3)->MX.kds ds=true/\PyData.depthAll ds <= 3
|[],_=>⟨rfl,zero_le _⟩
|d :: ds,h=>by
  obtain⟨a,b⟩:=Ch (ds:=ds) λu hu=>h u (mem_cons_of_mem _ hu)
  have hd:=h d mem_cons_self;refine⟨?_,?_⟩
  . show (MX.kd d && MX.kds ds)=true;rw[hd.1,a];rfl
  . show max d.depth (PyData.depthAll ds) <= 3;have:=hd.2;omega
def Kt (d:PyData):Prop:=MX.kd d=true/\d.depth <= 4
theorem Kt.tup {ds:List PyData}(h:∀ d∈ds,MX.kd d=true/\d.depth <= 3):Kt (.tuple ds):=by
 obtain⟨a,b⟩:=Ch h;exact⟨a,by show PyData.depthAll ds+1 <= 4;omega⟩
theorem Kt.ints (ns:List Int):Kt (DZ ns):=.tup λd hd=>by
 obtain⟨x,_,rfl⟩:=mem_map.mp hd;exact⟨rfl,by show 0 <= 3;decide⟩
theorem Ca:∀ {ds:List PyData},(∀ d∈ds,Kt d)->MX.kds ds=true/\PyData.depthAll ds <= 4
|[],_=>⟨rfl,zero_le _⟩
|d :: ds,h=>by
  obtain⟨a,b⟩:=Ca (ds:=ds) λu hu=>h u (mem_cons_of_mem _ hu)
  have hd:=h d mem_cons_self;refine⟨?_,?_⟩
  . show (MX.kd d && MX.kds ds)=true;rw[hd.1,a];rfl
  . show max d.depth (PyData.depthAll ds) <= 4;have:=hd.2;omega
def Kt5 (d:PyData):Prop:=MX.kd d=true/\d.depth <= 5
theorem Kt5.tup {ds:List PyData}(h:∀ d∈ds,Kt d):Kt5 (.tuple ds):=by
 obtain⟨a,b⟩:=Ca h;exact⟨a,by show PyData.depthAll ds+1 <= 5;omega⟩
theorem Kt5.lay {d:PyData}(h:Kt5 d):mF d/\d.depth <= 10:=⟨⟨MX.kd_lay _ h.1,by have:=h.2;omega⟩,by have:=h.2;omega⟩
def zn:Sp:=λvs H Q _=>∃ (st:Addr) (zs:List V) (es:List Ev) (k:Cn),vs=[.ref st,.str k.key]/\H st=some (.lst zs)/\Paired (EvR H) es zs/\es.length < 1000 /\
 ∀ (p:Addr) (ys:List V) (H':Hp),bG H H'->H p=none->H' p=some (.lst ys)->Paired (PrR H') (th k es) ys->Q (.ref p) H'
theorem vi (k:Cn) (es:List Ev):(th k es).length <= es.length:=by unfold th;rw[length_map];exact length_filter_le ..
theorem DY {k:Cn}{es:List Ev}{i:Nat}(h:i < es.length):th k (es.take (i+1))=th k (es.take i)++(if es[i].1=k then [es[i].2] else []):=by
 rw[take_add_one,getElem?_eq_getElem h,bc];congr 1;show th k [es[i]]=_;unfold th;rw[filter_cons];by_cases e:es[i].1=k
 . rw[if_pos e,if_pos (decide_eq_true e)];rfl
 . rw[if_neg e,if_neg (by rw[decide_eq_true_eq];exact e)];rfl
theorem se {a b:Cn}(h:V.str a.key=V.str b.key):a=b:=by
 cases a<;>cases b<;>first|rfl|exact absurd h (by decide +kernel)
theorem ku (G:Gs K mg a d):FnOk P w K mg base CX0 1 a.eA d.eA ["story","word"] zn:=by
 refine G.eS.ok qG (λvs H Q E h=>?_) (λcdv A' outer s' H vs Q E hr h=>?_)
 . obtain⟨st,zs,es,k,rfl,_⟩:=h;rfl
 . obtain⟨st,zs,es,k,rfl,hst,pr,hl,kk⟩:=h;have hu:=eZ hr;refine⟨_,((by exact Ag (x:="what") (x2:="name") (x3:="worth") (g:=Ei K 3 (lK (jg 0) (lK (jg 1) (lK (jg 2) Eh)))) (tc:=yM (tOp rEq (pc 0) (pc 3))) (te:=GO (tJ (pc 1) (tJ (pc 2) CB))) (caps:=["word"]) (js:=[1]) rfl (lX rfl rfl (by decide +kernel) (by decide +kernel) rfl ⟨rfl,trivial⟩ rfl rfl) (λC s₃ H₃ pins ex E'=>by exact AG rfl (show (["what","name","worth","word"]:List Str).Nodup from by decide +kernel) rfl rfl rfl (.inl (lookup_relabel_local rfl)) (.inl (lookup_relabel_local rfl)) (.inl (lookup_relabel_local rfl)) rfl rfl rfl) ⟨⟨⟨_,rfl⟩,rfl,.inl rfl,.inl rfl⟩,trivial⟩ (eV (pv 0)) (λC s₃ H₃ pins ex E'=>by exact rc (ao cm (pv 0) (pv 3) (av _))) (λC s₃ H₃ pins ex E'=>by exact(@aO _ _ _ _ _ ((pv 1)∣((pv 2)∣a9)))))⁻¹),?_⟩;refine⟨_,rfl,st,rfl,⟨_,SqL.of hst⟩,λD hD=>?_⟩;have pl:=aX pr;refine⟨λi mm ys H'=>i <= es.length/\mm=es.length - i/\Paired (PrR H') (th k (es.take i)) ys/\H' D=some (.lst ys)/\∀ c o,c≠D->H c=some o->H' c=some o,⟨_,zero_le _,rfl,.nil,a6,λc o n e=>by rw[aa n];exact e⟩,?_⟩;rintro i mm ys H2 ⟨hi,rfl,py,hD2,k2⟩;have e2:bG H H2:=λc o e=>k2 c o (λy=>by rw[y,hD]at e;cases e) e
   have yl:ys.length <= i:=by
    have h1:=aX py;have h2:=vi k (es.take i);rw[length_take]at h2;omega
   refine⟨hD2,Nat.lt_of_lt_of_le (show _ < 1000 by omega) (by decide),?_⟩;by_cases hii:i=es.length
   . refine .inl ⟨⟨_,SqL.of (e2 _ _ hst),by omega⟩,?_⟩;rw[hii,take_length]at py;exact kk D ys H2 e2 hD hD2 py
   . have hlt:i < es.length:=by omega
     obtain⟨z,hz,t,rfl,ht⟩:=Paired.at' pr (getElem?_eq_getElem hlt);refine .inr ⟨⟨_,_,SqL.of (e2 _ _ hst),hz⟩,?_⟩;rintro v H3 ⟨rfl,hv⟩ v0 v1 v2;have hv:=hv _ (SqL.of (e2 _ _ hst));rw[hz]at hv;cases hv;refine⟨t,_,rfl,SqT.of (e2 _ _ ht),rfl,_,_,rfl,_,_,rfl,_,_,rfl,rfl,_,_,_,rfl,?_⟩;refine⟨_,rfl,_,rfl,rfl,_,rfl,?_⟩;have hth:=DY (k:=k) hlt;by_cases hk:es[i].1=k
     . refine ic (decide_eq_true (by rw[hk])) ?_;rw[if_pos hk]at hth;refine⟨_,rfl,_,rfl,l2,λt2 ht2=>?_⟩;have e3:=ag (o:=.tup [V.int es[i].2.1,V.int es[i].2.2]) ht2;have nD:D≠t2:=ae hD2 ht2;have tu:∀ b vs,H3 b=some (.tup vs)->upd (upd H3 t2 (.tup [V.int es[i].2.1,V.int es[i].2.2])) D (.lst (ys++[.ref t2])) b=some (.tup vs):=λb vs e=>by
        rw[aa (λz=>by rw[z,hD2]at e;cases e)];exact e3 _ _ e
       refine⟨e3 _ _ hD2,_,?_,?_,rfl,?_,a6,λc o n e=>?_⟩
       . omega
       . omega
       . rw[hth];exact jj (Paired.mapP py λ_ _ q=>q.keep tu) (.cons ⟨t2,rfl,by rw[aa (λz=>nD z.symm)];exact a6⟩ .nil)
       . rw[aa n];exact e3 _ _ (k2 c o n e)
     . refine cf (by rw[decide_eq_true_eq];exact λz=>hk (se z)) ?_;rw[if_neg hk,append_nil]at hth;exact⟨_,by omega,by omega,rfl,by rw[hth];exact py,hD2,k2⟩
def yA (w:World) (C:Addr):Sp:=λvs H Q _=>∃ (sa:SA) (m:Mem) (rs:Bool->List Wr) (b:Bool) (k:Cn),vs=[.ref sa.x,.int (sdI b),.str k.key]/\StT w C H sa m rs/\(rs b).length < 1000 /\
 ∀ H',bG H H'->Q (.int (nC k (rs b):Nat)) H'
theorem zY {H:Hp}:∀ {ds:List PyData}{ts:List V}{i:Nat}{d:PyData},DVs H ds ts->ds[i]?=some d->∃ y,ts[i]?=some y/\DV H d y
|[],_,_,_,_,e=>by cases e
|d :: ds,_,0,_,⟨v,r,rfl,h1,_⟩,e=>by cases e;exact⟨v,rfl,h1⟩
|d :: ds,_,i+1,_,⟨v,r,rfl,_,h2⟩,e=>zY (i:=i) h2 e
theorem EU (x:Wr):MX.kd x.key=true:=by
 cases x with
|c k i=>exact oW k
|p g i nm wt=>exact nP g i
theorem BR (x:Wr):mF x.key:=by
 refine⟨MX.kd_lay _ (EU x),?_⟩;cases x with
|c k i=>show 0 <= 16;decide
|p g i nm wt=>show 1 <= 16;decide
theorem Ez (k:Cn):mF (.str k.key):=BR (.c k 0)
theorem lj {x:Wr}{k:Cn}:PyData.eqv x.key (.str k.key)=isC k x:=by
 cases x with
|c k' i =>
  have e:PyData.eqv (.str k'.key) (.str k.key)=decide (k'=k):=by cases k'<;>cases k<;>decide +kernel
  show PyData.eqv (.str k'.key) (.str k.key)=(if k'=k then some i else none).isSome;rw[e];by_cases h:k'=k
  . rw[if_pos h,decide_eq_true h];rfl
  . rw[if_neg h,decide_eq_false h];rfl
|p g i nm wt=>cases g<;>rfl
theorem Dw {k:Cn}{row:List Wr}{i:Nat}(h:i < row.length):nC k (row.take (i+1))=nC k (row.take i)+(if isC k row[i]=true then 1 else 0):=by
 unfold nC;rw[take_add_one,getElem?_eq_getElem h,filter_append,List.length_append];congr 1;show (List.filter (isC k) [row[i]]).length=_;rw[filter_cons];cases isC k row[i]<;>rfl
theorem yH (G:Gs K mg a d):FnOk P w K mg base CX0 2 a.fO d.fO ["store","side","cell"] (yA w a.aJ):=by
 have c_Store_waits:FnOk P w K mg base CX0 1 _ _ _ _:=(qr G).imp λvs H Q E=>yV
 refine G.mY.ok sT (λvs H Q E h=>?_) (λcdv A' outer s' H vs Q E hr h=>?_)
 . obtain⟨sa,m,rs,b,k,rfl,_⟩:=h;rfl
 . obtain⟨sa,m,rs,b,k,rfl,st,hl,kk⟩:=h;have hu:=eZ hr;refine⟨_,((aI bq (by rfl) G.lc gR ((by exact vM (x:="other") (x2:="worth") (g:=Ei K 2 (lK (jg 0) (lK (jg 1) Eh))) (tc:=yM (tOp (FK false) (pc 0) (pc 2))) (te:=pc 1) (caps:=["cell"]) (js:=[2]) rfl (lX rfl rfl (by decide +kernel) (by decide +kernel) rfl ⟨rfl,trivial⟩ rfl rfl) (λC s₃ H₃ pins ex E'=>by exact Cs rfl (show (["other","worth","cell"]:List Str).Nodup from by decide +kernel) rfl rfl (.inl (lookup_relabel_local rfl)) (.inl (lookup_relabel_local rfl)) rfl rfl) ⟨⟨⟨_,rfl⟩,rfl,.inl rfl,.inl rfl⟩,trivial⟩ (eV (aB (pv 0) G.aA G.eM c_Store_waits (hr.mono (by decide)) G.fe .nil ay ((pv 1)∣a9))) (λC s₃ H₃ pins ex E'=>by exact rc (ao (sf hr.units) (pv 0) (pv 2) (av _))) (λC s₃ H₃ pins ex E'=>by exact(pv 1)))∣a9))⁻¹),?_⟩;refine⟨_,rfl,gO st.ob (bW (by decide +kernel) (by decide +kernel)) ⟨_,rfl,sa,m,rs,b,rfl,st,λp1 ts hp1 dv=>?_⟩⟩;have s1:=ag (o:=.lst ts) hp1;have a1:upd H p1 (.lst ts) p1=some (.lst ts):=a6;generalize upd H p1 (.lst ts)=H1 at s1 a1 |-;have tl:=lM dv;rw[length_map]at tl;refine⟨p1,rfl,⟨_,SqL.of a1⟩,λD hD=>?_⟩;refine⟨λi mm ys H'=>i <= (rs b).length/\mm=(rs b).length - i/\ys.length=nC k ((rs b).take i)/\H' D=some (.lst ys)/\∀ c o,c≠D->H1 c=some o->H' c=some o,⟨_,zero_le _,rfl,rfl,a6,λc o n e=>by rw[aa n];exact e⟩,?_⟩;rintro i mm ys H2 ⟨hi,rfl,py,hD2,k2⟩;have e2:bG H1 H2:=λc o e=>k2 c o (λy=>by rw[y,hD]at e;cases e) e
   have yl:ys.length <= i:=by
    have h2:nC k ((rs b).take i) <= ((rs b).take i).length:=length_filter_le ..;rw[length_take]at h2;omega
   refine⟨hD2,Nat.lt_of_lt_of_le (show _ < 1000 by omega) (by decide),?_⟩;by_cases hii:i=(rs b).length
   . refine .inl ⟨⟨_,SqL.of (e2 _ _ a1),by omega⟩,D,_,rfl,.inl (SqL.of hD2),?_⟩;rw[hii,take_length]at py;rw[py];exact kk H2 (s1.trans e2)
   . have hlt:i < (rs b).length:=by omega
     obtain⟨z,hz,dz⟩:=zY dv (i:=i) (d:=wrD (rs b)[i]) (by rw[getElem?_map,getElem?_eq_getElem hlt];rfl);obtain⟨t,vs,rfl,ht,u1,r1,rfl,d1,u2,r2,rfl,d2,rfl⟩:=dz;refine .inr ⟨⟨_,_,SqL.of (e2 _ _ a1),hz⟩,?_⟩;rintro v H3 ⟨rfl,hv⟩ v0 v1;have hv:=hv _ (SqL.of (e2 _ _ a1));rw[hz]at hv;cases hv;have E3:=s1.trans e2;refine⟨t,_,rfl,SqT.of (E3 _ _ ht),rfl,_,_,rfl,_,_,rfl,rfl,_,_,rfl,?_⟩;refine⟨_,rfl,_,rfl,(rs b)[i].key,.str k.key,DV.keep (λc vs=>E3 c _) _ _ (EU _) d1,rfl,BR _,Ez k,_,rfl,?_⟩;rw[if_neg (by decide),lj];have hn:=Dw (k:=k) hlt;cases hk:isC k (rs b)[i] with
    |true =>
      rw[hk]at hn;refine fX ⟨_,rfl,hD2,_,?_,?_,rfl,?_,a6,λc o n e=>by rw[aa n];exact k2 c o n e⟩
      . omega
      . omega
      . rw[List.length_append,py,hn];rfl
    |false =>
      rw[hk]at hn;exact cU ⟨_,by omega,by omega,rfl,by rw[hn];exact py,hD2,k2⟩
def cnS:Cn->Bool
|.taken=>true
|.answered=>true
|_=>false
def ctV (S:YS) (es:List Ev) (k:Cn):Int × Int:=((th k es).length,((th k es).length:Int) - (nC k (S.rs (cnS k)):Nat))
def qd:List Cn:=[.asked,.taken,.answered,.handed]
def ctD (t:Cn->Addr) (ks:List Cn):List (Key × V):=ks.map λk=>(.inr k.key,.ref (t k))
def CtR (H:Hp) (p:Addr) (f:Cn->Int × Int) (ks:List Cn):Prop:=∃ t:Cn->Addr,H p=some (.dK (ctD t ks))/\∀ k∈ks,H (t k)=some (.tup [.int (f k).1,.int (f k).2])
theorem C0 {t:Cn->Addr}{k:Cn}:∀ {ks:List Cn},k∈ks->oG (ctD t ks) (.inr k.key)=some (.ref (t k))
|[],h=>by cases h
|j :: ks,h=>by
  by_cases e:j=k
  . subst e;exact kE rfl
  . unfold ctD;rw[map_cons,kD (λz=>e (se (by injection z with z;rw[z])))];exact C0 (ks:=ks) (by rcases mem_cons.mp h with z|z;exact absurd z.symm e;exact z)
theorem Fn {t:Cn->Addr}{k:Cn}{v:V}{ks:List Cn}(h:k ∉ ks):rg (ctD t ks) (.inr k.key) v=ctD t ks++[(.inr k.key,v)]:=by
 unfold rg;rw[if_neg];rw[any_eq_true];rintro⟨x,hx,e⟩;obtain⟨j,hj,rfl⟩:=mem_map.mp hx;have e:=of_decide_eq_true e;exact h (by rw[<-se (a:=j) (b:=k) (by injection e with z;rw[z])];exact hj)
theorem CtR.same {H H':Hp}{p:Addr}{f:Cn->Int × Int}{ks:List Cn}(h:CtR H p f ks) (e:bG H H'):CtR H' p f ks:=by
 obtain⟨t,h1,h2⟩:=h;exact⟨t,e _ _ h1,λk hk=>e _ _ (h2 k hk)⟩
theorem CtR.get {H:Hp}{p:Addr}{f:Cn->Int × Int}{ks:List Cn}(h:CtR H p f ks) {k:Cn}(hk:k∈ks):∃ t:Addr,Aa H p (.str k.key) (some (.ref t))/\H t=some (.tup [.int (f k).1,.int (f k).2]):=by
 obtain⟨t,h1,h2⟩:=h;exact⟨t k,.inl ⟨_,.inr k.key,.inl h1,rfl,(C0 hk).symm⟩,h2 k hk⟩
theorem EF {t:Cn->Addr}{k:Cn}{b:Addr}{ks:List Cn}(h:k ∉ ks):ctD (λj=>if j=k then b else t j) (ks++[k])=ctD t ks++[(.inr k.key,.ref b)]:=by
 unfold ctD;rw[map_append];congr 1
 . exact List.map_congr_left λj hj=>by show ((.inr j.key:Key),V.ref (if j=k then b else t j))=_;rw[if_neg (λz=>h (by rw[<-z];exact hj))]
 . show [((.inr k.key:Key),V.ref (if k=k then b else t k))]=_;rw[if_pos rfl]
def xB (w:World) (ad:Ad):Sp:=λvs H Q _=>∃ (a:YA) (q:YP) (S:YS) (st:Addr) (zs:List V) (es:List Ev),vs=[.ref a.y,.ref st]/\Yn w ad.bx ad.dQ ad.bu ad.cr ad.aJ H a q S/\(∀ b,(S.rs b).length < 1000)/\H st=some (.lst zs)/\Paired (EvR H) es zs/\es.length < 1000 /\
 ∀ (p:Addr) (H':Hp),bG H H'->H p=none->CtR H' p (ctV S es) qd->Q (.ref p) H'
theorem dN {H H':Hp}{es:List Ev}{zs:List V}(h:Paired (EvR H) es zs) (e:bG H H'):Paired (EvR H') es zs:=Paired.mapP h λ_ _ q=>q.keep λb vs=>e b _
theorem qb (G:Gs K mg a d):FnOk P w K mg base CX0 3 a.dX d.dX ["yard","story"] (xB w a):=by
 have c_Yard_store:FnOk P w K mg base CX0 1 _ _ _ _:=tX G;have c_law_things:FnOk P w K mg base CX0 1 _ _ _ _:=ku G;have c_law_waits:FnOk P w K mg base CX0 2 _ _ _ _:=yH G;refine G.iR.ok c8 (λvs H Q E h=>?_) (λcdv A' outer s' H vs Q E hr h=>?_)
 . obtain⟨y,q,S,st,zs,es,rfl,_⟩:=h;rfl
 . obtain⟨y,q,S,st,zs,es,rfl,Y,rl,hst,pr,hl,k⟩:=h;have hu:=eZ hr;refine⟨_,((@aK _ _ 2 _ _ _ _ c8.nd rfl (Or.inl rfl) (bf (pv 0) G.am G.kQ c_Yard_store (hr.mono (by decide)) G.m9 .nil ay) (by rfl) (by exact .inl rfl))∪((@aK _ _ 3 _ _ _ _ c8.nd rfl (Or.inl rfl) qN (by rfl) (by exact .inl rfl))∪((@iJ _ _ _ _ _ _ _ _ PassesOwn.never rfl (@eV _ _ _ _ (@bV _ _ _ _ ((@aO _ _ _ _ _ (ac∣(ai∣(ac∣a9))))∣((@aO _ _ _ _ _ (ac∣(ai∣(ac∣a9))))∣((@aO _ _ _ _ _ (ac∣(ai∣(ac∣a9))))∣((@aO _ _ _ _ _ (ac∣(ai∣(ac∣a9))))∣a9)))))) (@jw _ _ _ _ _ _ rfl (@b8 _ _ _ _ _ (aR (i:=4) c8.nd rfl (Or.inl rfl)) (@b8 _ _ _ _ _ (aR (i:=5) c8.nd rfl (Or.inl rfl)) (@b8 _ _ _ _ _ (aR (i:=6) c8.nd rfl (Or.inl rfl)) gn (by rfl)) (by rfl)) (by rfl)) (by rfl) (by rfl)) ((@aK _ _ 7 _ _ _ _ c8.nd rfl (Or.inl rfl) (aI bq (by rfl) G.lc gR ((aS c_law_things (hr.mono (by decide)) (by rfl) G.gi G.eS.kp G.gk .nil ay ((pv 1)∣((pv 5)∣a9)))∣a9)) (by rfl) (by exact .inl rfl))∪(@ap _ _ _ (@uc _ _ _ _ _ _ _ _ _ hu (pv 3) (pv 5) (@aO _ _ _ _ _ ((pv 7)∣((@aN _ _ _ _ _ _ _ _ kM (pv 7) (aS c_law_waits (hr.mono (by decide)) (by rfl) G.uz G.mY.kp G.ur .nil ay ((pv 2)∣((pv 4)∣((pv 5)∣a9)))))∣a9))) rfl))) (by intro _;rfl))∪((pv 3)⁻¹)))),?_⟩;refine⟨_,rfl,gO Y.ob (jM (by decide +kernel)) ⟨y,q,S,rfl,Y,?_⟩⟩;intro p hp;have e1:=ag (o:=.dK []) hp;have v1:upd H p (.dK []) p=some (.dK []):=a6;generalize upd H p (.dK [])=H1 at e1 v1 |-;refine⟨l3,λr1 n1=>⟨l3,λr2 n2=>⟨l3,λr3 n3=>⟨l3,λr4 n4=>⟨by show 4 <= sizeLine;decide,λlp nl=>⟨lp,rfl,⟨_,SqL.of a6⟩,?_⟩⟩⟩⟩⟩⟩;have f1:=ag (o:=.tup [V.int 0,V.str "asked",V.int 0]) n1;have f2:=ag (o:=.tup [V.int 1,V.str "taken",V.int 0]) n2;have f3:=ag (o:=.tup [V.int 1,V.str "answered",V.int 1]) n3;have f4:=ag (o:=.tup [V.int 0,V.str "handed",V.int 1]) n4;have f5:=ag (o:=.lst [V.ref r1,V.ref r2,V.ref r3,V.ref r4]) nl;have g1:=f5 _ _ (f4 _ _ (f3 _ _ (f2 _ _ (a6 (H:=H1) (a:=r1) (o:=.tup [V.int 0,V.str "asked",V.int 0])))));have g2:=f5 _ _ (f4 _ _ (f3 _ _ (a6 (a:=r2) (o:=.tup [V.int 1,V.str "taken",V.int 0]))));have g3:=f5 _ _ (f4 _ _ (a6 (a:=r3) (o:=.tup [V.int 1,V.str "answered",V.int 1])));have g4:=f5 _ _ (a6 (a:=r4) (o:=.tup [V.int 0,V.str "handed",V.int 1]));have g5:=a6 (H:=upd (upd (upd (upd H1 r1 (.tup [V.int 0,V.str "asked",V.int 0])) r2 (.tup [V.int 1,V.str "taken",V.int 0])) r3 (.tup [V.int 1,V.str "answered",V.int 1])) r4 (.tup [V.int 0,V.str "handed",V.int 1])) (a:=lp) (o:=.lst [V.ref r1,V.ref r2,V.ref r3,V.ref r4]);have e2:=f1.trans (f2.trans (f3.trans (f4.trans f5)));clear f1 f2 f3 f4 f5;generalize upd (upd (upd (upd (upd H1 r1 _) r2 _) r3 _) r4 _) lp _=H2 at e2 g1 g2 g3 g4 g5 |-;have np:∀ r vs,H2 r=some (.tup vs)->r≠p:=λr vs h z=>by rw[z,e2 _ _ v1]at h;cases h
   have nlp:lp≠p:=λz=>by rw[z,e2 _ _ v1]at g5;cases g5
   refine gf (K:=K) (a:=lp) (xs:=[V.ref r1,V.ref r2,V.ref r3,V.ref r4]) (λi σ H3=>(∃ v4 v5 v6 v7,σ=[some (.ref y.y),some (.ref st),some (.ref y.sa.x),some (.ref p),v4,v5,v6,v7])/\CtR H3 p (ctV S es) (qd.take i)/\∀ c o,c≠p->H2 c=some o->H3 c=some o)
    ⟨⟨_,_,_,_,rfl⟩,⟨λ_=>0,e2 _ _ v1,λ_ h=>by cases h⟩,λ_ _ _ e=>e⟩ (λ_ _ _ _ ⟨_,_,z⟩=>SqL.of (z _ _ nlp g5)) ?_ ?_
   . rintro i x σ H3 hi ⟨⟨v4,v5,v6,v7,rfl⟩,ct,k3⟩;obtain⟨kk,cc,r,rfl,hr3,hkn,hkt,hi4⟩:∃ (kk:Cn) (cc:Int) (r:Addr),x=.ref r/\H3 r=some (.tup [.int (sdI (cnS kk)),.str kk.key,.int cc])/\kk ∉ qd.take i/\qd.take (i+1)=qd.take i++[kk]/\i < 4:=by
      match i,hi with
     |0,hi=>cases hi;exact⟨.asked,_,r1,rfl,k3 _ _ (np _ _ g1) g1,by decide,rfl,by decide⟩
     |1,hi=>cases hi;exact⟨.taken,_,r2,rfl,k3 _ _ (np _ _ g2) g2,by decide,rfl,by decide⟩
     |2,hi=>cases hi;exact⟨.answered,_,r3,rfl,k3 _ _ (np _ _ g3) g3,by decide,rfl,by decide⟩
     |3,hi=>cases hi;exact⟨.handed,_,r4,rfl,k3 _ _ (np _ _ g4) g4,by decide,rfl,by decide⟩
     |_+4,hi=>cases hi
     have E3:bG H H3:=λc o e=>k3 c o (ae e hp) (e2 _ _ (e1 _ _ e))
     refine⟨r,_,rfl,SqT.of hr3,rfl,_,_,rfl,_,_,rfl,_,_,rfl,rfl,?_⟩;refine⟨_,rfl,_,rfl,st,zs,es,kk,rfl,E3 _ _ hst,dN pr E3,hl,λp2 ys H4 e4 _ hp2 py=>⟨p2,_,rfl,.inl (SqL.of hp2),?_⟩⟩;have el:ys.length=(th kk es).length:=by have:=aX py;omega
     rw[el];refine⟨_,rfl,_,rfl,_,rfl,_,rfl,_,rfl,y.sa,S.m,S.rs,cnS kk,kk,rfl,(Y.same (E3.trans e4)).x.st,rl _,λH5 e5=>⟨_,_,rfl,rfl,l2,λt ht=>?_⟩⟩;have e6:=ag (o:=.tup [V.int ((th kk es).length:Nat),V.int (((th kk es).length:Nat) - (nC kk (S.rs (cnS kk)):Nat))]) ht;have v6:=a6 (H:=H5) (a:=t) (o:=.tup [V.int ((th kk es).length:Nat),V.int (((th kk es).length:Nat) - (nC kk (S.rs (cnS kk)):Nat))]);have e7:=e4.trans (e5.trans e6);generalize upd H5 t _=H6 at e6 e7 v6 |-;obtain⟨tt,c1,c2⟩:=ct.same e7;have cl:(ctD tt (qd.take i)).length < sizeLine:=by
      unfold ctD;rw[length_map,length_take];exact Nat.lt_of_lt_of_le (show _ < 1000 by omega) (by decide)
     refine⟨_,rfl,_,rfl,p,_,rfl,.inl ⟨_,.inr kk.key,c1,rfl,cl,rfl⟩,⟨_,_,_,_,rfl⟩,⟨λj=>if j=kk then t else tt j,?_,λj hj=>?_⟩,λc o n e=>by rw[aa n];exact e7 _ _ (k3 c o n e)⟩
     . rw[a6,Fn hkn,hkt,EF hkn]
     . have tp:∀ r vs,H6 r=some (.tup vs)->upd H6 p (.dK (rg (ctD tt (qd.take i)) (.inr kk.key) (.ref t))) r=some (.tup vs):=λr vs h=>by rw[aa (λz=>by rw[z,c1]at h;cases h)];exact h
       rw[hkt]at hj;refine tp _ _ ?_;show H6 (if j=kk then t else tt j)=_;rcases mem_append.mp hj with z|z
       . rw[if_neg (λzz=>hkn (by rw[<-zz];exact z))];exact c2 j z
       . rw[mem_singleton.mp z,if_pos rfl];exact v6
   . rintro σ H3 ⟨⟨v4,v5,v6,v7,rfl⟩,ct,k3⟩;exact⟨_,rfl,k p H3 (λc o e=>k3 c o (ae e hp) (e2 _ _ (e1 _ _ e))) hp ct⟩
def Bj:Sp:=λvs H Q _=>∃ (p q:Addr) (xs ys zs:List Int),vs=[.ref p,.ref q]/\H p=some (.lst (xs.map V.int))/\H q=some (.lst (ys.map V.int))/\xs.Perm (ys++zs)/\zs.length < 64 /\
 ∀ (l:Addr) (ns:List Int) (H':Hp),bG H H'->H l=none->ns.Perm zs->ns.Pairwise (· <= ·)->H' l=some (.lst (ns.map V.int))->Q (.ref l) H'
def nmL (k:Cn) (es:List Ev):List Int:=(th k es).map (·.1)
def NmR (H:Hp) (p:Addr) (f:Cn->List Int) (ks:List Cn):Prop:=∃ t:Cn->Addr,H p=some (.lst (ks.map λk=>V.ref (t k)))/\∀ k∈ks,H (t k)=some (.lst ((f k).map V.int))/\t k≠p
def yC:Sp:=λvs H Q _=>∃ (st:Addr) (zs:List V) (es:List Ev) (us ks:List Int),vs=[.ref st]/\H st=some (.lst zs)/\Paired (EvR H) es zs/\es.length < 1000/\(nmL .asked es).Perm (nmL .handed es++us)/\(nmL .taken es).Perm (nmL .answered es++ks)/\us.length < 64/\ks.length < 64 /\
 ∀ (t l1 l2:Addr) (us' ks':List Int) (H':Hp),bG H H'->H t=none->H' t=some (.tup [.ref l1,.ref l2])->us'.Perm us->us'.Pairwise (· <= ·)->H' l1=some (.lst (us'.map V.int))->ks'.Perm ks->ks'.Pairwise (· <= ·)->H' l2=some (.lst (ks'.map V.int))->Q (.ref t) H'
theorem B3 (G:Gs K mg a d):FnOk P w K mg base CX0 1 a.hX d.hX ["some","others"] Bj:=by
 refine G.li.ok jO (λvs H Q E h=>?_) (λcdv A' outer s' H vs Q E hr h=>?_)
 . obtain⟨p,q,xs,ys,zs,rfl,_⟩:=h;rfl
 . obtain⟨p,q,xs,ys,zs,rfl,hp,hq,pm,zl,k⟩:=h;have hu:=eZ hr;refine⟨_,((@aK _ _ 2 _ _ _ _ jO.nd rfl (Or.inl rfl) (br je (by rfl) G.vA rq ((pv 0)∣a9)) (by rfl) (by exact .inl rfl))∪((@iJ _ _ _ _ _ _ _ _ PassesOwn.never rfl (@eV _ _ _ _ (pv 1)) (aR (i:=3) jO.nd rfl (Or.inl rfl)) (@ap _ _ _ (@b6 _ _ _ _ (@lO _ _ _ _ _ _ _ _ _ _ _ _ PySem.F.plainAttrs_list PySem.F.slot_list_remove PySem.F.type_list_remove rZ (pv 2) ((pv 3)∣a9) (by rfl) (by rfl) (by rfl) (by rfl) (by rfl)) (by rfl))) (by intro _;rfl))∪((aI uA (by rfl) G.mH kU ((pv 2)∣a9))⁻¹))),?_⟩;refine⟨_,rfl,p,_,rfl,.inl (SqL.of hp),λl hl=>?_⟩;have e1:=ag (o:=.lst (xs.map V.int)) hl;have v1:upd H l (.lst (xs.map V.int)) l=some (.lst (xs.map V.int)):=a6;generalize upd H l (.lst (xs.map V.int))=H1 at e1 v1 |-;have nq:q≠l:=ae hq hl;refine⟨_,rfl,q,rfl,⟨_,SqL.of (e1 _ _ hq)⟩,?_⟩;refine gf (K:=K) (a:=q) (xs:=ys.map V.int) (λi σ H2=>(∃ v3,σ=[some (.ref p),some (.ref q),some (.ref l),v3])/\(∃ ls:List Int,H2 l=some (.lst (ls.map V.int))/\ls.Perm (ys.drop i++zs))/\∀ c o,c≠l->H1 c=some o->H2 c=some o)
    ⟨⟨_,rfl⟩,⟨xs,v1,pm⟩,λ_ _ _ e=>e⟩ (λ_ _ _ _ ⟨_,_,z⟩=>SqL.of (z _ _ nq (e1 _ _ hq))) ?_ ?_
   . rintro i x σ H2 hi ⟨⟨v3,rfl⟩,⟨ls,h2,pl⟩,k2⟩;have hlt:i < ys.length:=by have:=(List.getElem?_eq_some_iff.mp hi).1;rw[length_map]at this;exact this
     rw[getElem?_map,getElem?_eq_getElem hlt]at hi;cases hi;rw[List.drop_eq_getElem_cons hlt,cons_append]at pl;have pe:=pl.erase ys[i];rw[List.erase_cons_head]at pe;exact⟨_,rfl,.inl ⟨rfl,_,SqL.of h2⟩,_,rfl,l,ls,ys[i],rfl,rfl,h2,pl.mem_iff.mpr mem_cons_self,⟨_,rfl⟩,⟨_,a6,pe⟩,λc o n e=>by rw[aa n];exact k2 c o n e⟩
   . rintro σ H2 ⟨⟨v3,rfl⟩,⟨ls,h2,pl⟩,k2⟩;rw[length_map,List.drop_length,List.nil_append]at pl;have e2:bG H H2:=λc o e=>k2 c o (ae e hl) (e1 _ _ e)
     refine⟨_,rfl,l,ls,rfl,SqL.of h2,by rw[pl.length_eq];exact zl,λr ns hr2 p2 s2=>?_⟩;exact k r ns _ (e2.trans (ag hr2)) (b9 e2 hr2) (p2.trans pl) s2 a6
theorem tS (G:Gs K mg a d):FnOk P w K mg base CX0 2 a.fM d.fM ["story"] yC:=by
 have c_law_things:FnOk P w K mg base CX0 1 _ _ _ _:=ku G;have c_law_less:FnOk P w K mg base CX0 1 _ _ _ _:=B3 G;refine G.jI.ok iQ (λvs H Q E h=>?_) (λcdv A' outer s' H vs Q E hr h=>?_)
 . obtain⟨st,zs,es,us,ks,rfl,_⟩:=h;rfl
 . obtain⟨st,zs,es,us,ks,rfl,hst,pr,hl,pu,pk,ul,kl,k⟩:=h;have hu:=eZ hr;refine⟨_,((@aK _ _ 1 _ _ _ _ iQ.nd rfl (Or.inl rfl) (@bV _ _ _ _ a9) (by rfl) (by exact .inl rfl))∪((@iJ _ _ _ _ _ _ _ _ PassesOwn.never rfl (@eV _ _ _ _ (@bV _ _ _ _ (ai∣(ai∣(ai∣(ai∣a9)))))) (aR (i:=2) iQ.nd rfl (Or.inl rfl)) (@ap _ _ _ (@b6 _ _ _ _ (@lO _ _ _ _ _ _ _ _ _ _ _ _ PySem.F.plainAttrs_list PySem.F.slot_list_append PySem.F.type_list_append cZ (pv 1) ((by exact o6 (tc:=λ_ H Q=>Q true H) (te:=tOp (GC K) (pc 0) (tC (.int 0))) (caps:=[]) (js:=[]) rfl (lX rfl rfl (by decide +kernel) (by decide +kernel) rfl trivial rfl rfl) (by decide +kernel) trivial (@eV _ _ _ _ (aS c_law_things (hr.mono (by decide)) (by rfl) G.gi G.eS.kp G.gk .nil ay ((pv 0)∣((pv 2)∣a9)))) (λC s₃ H₃ pins ex E'=>by exact mV) (λC s₃ H₃ pins ex E'=>by exact(@ax _ _ _ _ _ _ _ ar (pv 0) ac (λ_ _=>rfl))))∣a9) (by rfl) (by rfl) (by rfl) (by rfl) (by rfl)) (by rfl))) (by intro _;rfl))∪((@aO _ _ _ _ _ ((aS c_law_less (hr.mono (by decide)) (by rfl) G.pY G.li.kp G.qi .nil ay ((@ax _ _ _ _ _ _ _ bo (pv 1) ac (λ_ _=>rfl))∣((@ax _ _ _ _ _ _ _ bo (pv 1) ac (λ_ _=>rfl))∣a9)))∣((aS c_law_less (hr.mono (by decide)) (by rfl) G.pY G.li.kp G.qi .nil ay ((@ax _ _ _ _ _ _ _ bo (pv 1) ac (λ_ _=>rfl))∣((@ax _ _ _ _ _ _ _ bo (pv 1) ac (λ_ _=>rfl))∣a9)))∣a9)))⁻¹))),?_⟩;refine⟨rE,λp hp=>?_⟩;have e1:=ag (o:=.lst []) hp;have v1:upd H p (.lst []) p=some (.lst []):=a6;generalize upd H p (.lst [])=H1 at e1 v1 |-;refine⟨by show 4 <= sizeLine;decide,λlp nl=>⟨lp,rfl,⟨_,SqL.of a6⟩,?_⟩⟩;have f5:=ag (o:=.lst [V.str "asked",V.str "taken",V.str "answered",V.str "handed"]) nl;have g5:=a6 (H:=H1) (a:=lp) (o:=.lst [V.str "asked",V.str "taken",V.str "answered",V.str "handed"]);generalize upd H1 lp (.lst [V.str "asked",V.str "taken",V.str "answered",V.str "handed"])=H2 at f5 g5 |-;have nlp:lp≠p:=λz=>by rw[z,f5 _ _ v1]at g5;cases g5
   refine gf (K:=K) (a:=lp) (xs:=[V.str "asked",V.str "taken",V.str "answered",V.str "handed"]) (λi σ H3=>(∃ v2,σ=[some (.ref st),some (.ref p),v2])/\NmR H3 p (λk=>nmL k es) (qd.take i)/\∀ c o,c≠p->H2 c=some o->H3 c=some o)
    ⟨⟨_,rfl⟩,⟨λ_=>0,f5 _ _ v1,λ_ h=>by cases h⟩,λ_ _ _ e=>e⟩ (λ_ _ _ _ ⟨_,_,z⟩=>SqL.of (z _ _ nlp g5)) ?_ ?_
   . rintro i x σ H3 hi ⟨⟨v2,rfl⟩,⟨t,c1,c2⟩,k3⟩;obtain⟨kk,rfl,hkn,hkt,hi4⟩:∃ (kk:Cn),x=.str kk.key/\kk ∉ qd.take i/\qd.take (i+1)=qd.take i++[kk]/\i < 4:=by
      match i,hi with
     |0,hi=>cases hi;exact⟨.asked,rfl,by decide,rfl,by decide⟩
     |1,hi=>cases hi;exact⟨.taken,rfl,by decide,rfl,by decide⟩
     |2,hi=>cases hi;exact⟨.answered,rfl,by decide,rfl,by decide⟩
     |3,hi=>cases hi;exact⟨.handed,rfl,by decide,rfl,by decide⟩
     |_+4,hi=>cases hi
     have E3:bG H H3:=λc o e=>k3 c o (ae e hp) (f5 _ _ (e1 _ _ e))
     refine⟨_,rfl,.inl ⟨rfl,_,SqL.of c1⟩,_,rfl,_,rfl,st,zs,es,kk,rfl,E3 _ _ hst,dN pr E3,hl,λp2 ys H4 e4 _ hp2 py=>⟨p2,rfl,⟨_,SqL.of hp2⟩,λD hD=>?_⟩⟩;have yl:ys.length=(th kk es).length:=by have:=aX py;omega
     have tl:=vi kk es;refine⟨λi mm zs H'=>i <= ys.length/\mm=ys.length - i/\zs=((nmL kk es).take i).map V.int/\H' D=some (.lst zs)/\∀ c o,c≠D->H4 c=some o->H' c=some o,⟨_,zero_le _,rfl,rfl,a6,λc o n e=>by rw[aa n];exact e⟩,?_⟩;rintro j mm zs' H5 ⟨hj,rfl,rfl,hD5,k5⟩;have e5:bG H4 H5:=λc o e=>k5 c o (λy=>by rw[y,hD]at e;cases e) e
     refine⟨hD5,Nat.lt_of_lt_of_le (show _ < 1000 by rw[length_map,length_take];omega) (by decide),?_⟩;by_cases hjj:j=ys.length
     . refine .inl ⟨⟨_,SqL.of (e5 _ _ hp2),by omega⟩,?_⟩;have nl2:(nmL kk es).length=ys.length:=by unfold nmL;rw[length_map];omega
       rw[hjj,<-nl2,take_length]at hD5;have E5:=e4.trans e5;have c1':=E5 _ _ c1;have nDp:D≠p:=λz=>by rw[z,e4 _ _ c1]at hD;cases hD
       refine⟨p,_,_,rfl,rfl,c1',Nat.lt_of_lt_of_le (show _ < 1000 by rw[length_map,length_take];omega) (by decide),⟨_,rfl⟩,⟨λj=>if j=kk then D else t j,?_,λj hj=>?_⟩,λc o n e=>by rw[aa n];exact E5 _ _ (k3 c o n e)⟩
       . rw[a6,hkt,map_append];congr 3
         . exact List.map_congr_left λj hj=>by show _=V.ref (if j=kk then D else t j);rw[if_neg (λz=>hkn (by rw[<-z];exact hj))]
         . show _=[V.ref (if kk=kk then D else t kk)]
           rw[if_pos rfl]
       . rw[hkt]at hj;rcases mem_append.mp hj with z|z
         . show upd H5 p _ (if j=kk then D else t j)=_/\(if j=kk then D else t j)≠p;rw[if_neg (λzz=>hkn (by rw[<-zz];exact z)),aa (c2 j z).2];exact⟨E5 _ _ (c2 j z).1,(c2 j z).2⟩
         . show upd H5 p _ (if j=kk then D else t j)=_/\(if j=kk then D else t j)≠p;rw[mem_singleton.mp z,if_pos rfl,aa nDp];exact⟨hD5,nDp⟩
     . have hlt:j < ys.length:=by omega
       have hlt2:j < (th kk es).length:=by omega
       obtain⟨z,hz,tt,rfl,ht⟩:=Paired.at' py (getElem?_eq_getElem hlt2);refine .inr ⟨⟨_,_,SqL.of (e5 _ _ hp2),hz⟩,?_⟩;rintro v H6 ⟨rfl,hv⟩;have hv:=hv _ (SqL.of (e5 _ _ hp2));rw[hz]at hv;cases hv;refine fX ⟨_,rfl,tt,_,_,_,rfl,rfl,SqT.of (e5 _ _ ht),rfl,hD5,_,?_,?_,rfl,?_,a6,λc o n e=>by rw[aa n];exact k5 c o n e⟩
       . omega
       . omega
       . rw[take_add_one,map_append];congr 1;unfold nmL;rw[getElem?_map,getElem?_eq_getElem hlt2];rfl
   . rintro σ H3 ⟨⟨v2,rfl⟩,⟨t,c1,c2⟩,k3⟩;have E3:bG H H3:=λc o e=>k3 c o (ae e hp) (f5 _ _ (e1 _ _ e))
     have m0:Cn.asked∈qd.take 4:=by decide
     have m1:Cn.taken∈qd.take 4:=by decide
     have m2:Cn.answered∈qd.take 4:=by decide
     have m3:Cn.handed∈qd.take 4:=by decide
     refine⟨_,rfl,p,_,_,_,rfl,rfl,SqL.of c1,rfl,_,rfl,p,_,_,_,rfl,rfl,SqL.of c1,rfl,t .asked,t .handed,_,_,us,rfl,(c2 _ m0).1,(c2 _ m3).1,pu,ul,λq1 us' H4 e4 _ pu' su hq1=>?_⟩;have c1':=e4 _ _ c1;refine⟨_,rfl,p,_,_,_,rfl,rfl,SqL.of c1',rfl,_,rfl,p,_,_,_,rfl,rfl,SqL.of c1',rfl,t .taken,t .answered,_,_,ks,rfl,e4 _ _ (c2 _ m1).1,e4 _ _ (c2 _ m2).1,pk,kl,λq2 ks' H5 e5 _ pk' sk hq2=>⟨l2,λtt ht=>?_⟩⟩;have e6:=ag (o:=.tup [V.ref q1,V.ref q2]) ht;have E6:=E3.trans (e4.trans e5);exact k tt q1 q2 us' ks' _ (E6.trans e6) (b9 E6 ht) a6 pu' su (e6 _ _ (e5 _ _ hq1)) pk' sk (e6 _ _ hq2)
def Dy (w:World) (C:Addr):Sp:=λvs H Q _=>∃ (sa:SA) (m:Mem) (rs:Bool->List Wr) (k:Cn),vs=[.ref sa.x,.str k.key]/\StT w C H sa m rs/\Q (.int (m.c k)) H
theorem HC {w:World}{C:Addr}{vs:List V}{H:Hp}{Q:VK}{E:XK}(h:Dy w C vs H Q E):oA w C vs H Q E:=by
 obtain⟨sa,m,rs,k,rfl,⟨M,r,S,R,P⟩,q⟩:=h;refine⟨sa.x,sa.hd,sa.rl,sa.l,M,r,.str k.key,.str k.key,rfl,S,kS (xl k),?_⟩;rw[R.c k];exact q
def Bq (w:World) (C:Addr):Sp:=λvs H Q _=>∃ (sa:SA) (m:Mem) (rs:Bool->List Wr) (b g:Bool) (i:Int) (t:Addr) (nw:Int × Int),vs=[.ref sa.x,.int (sdI b),.ref t]/\StT w C H sa m rs/\H t=some (.tup [.str (j5 g),.int i])/\rdP m (rs b) g i=some nw/\∀ c,H c=some (.tup [.int nw.1,.int nw.2])->Q (.ref c) H
theorem Gk {w:World}{C:Addr}{vs:List V}{H:Hp}{Q:VK}{E:XK}(h:Bq w C vs H Q E):uL w C vs H Q E:=by
 obtain⟨sa,m,rs,b,g,i,t,nw,rfl,⟨M,r,S,R,P⟩,ht,hp,q⟩:=h;refine⟨sa.x,sa.hd,sa.rl,sa.l,M,r,b,.ref t,pk g i,rfl,S,⟨nP g i,by show 1 <= 8;decide,⟨t,_,rfl,ht,_,_,rfl,rfl,_,_,rfl,rfl,rfl⟩,.inr ⟨t,rfl⟩⟩,?_⟩;rcases uT R (P b) g i with⟨e,_⟩|⟨nm,wt,c,e1,e2,hc⟩
 . rw[hp]at e;cases e
 . rw[hp]at e1;cases e1;rw[e2];exact q c hc
def mB:Bool->Cn
|false=>.asked
|true=>.answered
def iu:Bool->Cn
|false=>.taken
|true=>.handed
theorem BH {s R:Int}{S:YS}{es:List Ev}(C:Cts s R S (th .asked es) (th .answered es) (th .taken es).length (th .handed es).length) {k:Cn}(hk:k∈qd):rdC S.m (S.rs (cnS k)) k=(ctV S es k).1 % (s * R)/\S.m.c k=(ctV S es k).2 % (s * R):=by
 simp only[qd,mem_cons,not_mem_nil,or_false]at hk;rcases hk with rfl|rfl|rfl|rfl
 . exact⟨C.ra,C.ma⟩
 . exact⟨C.rt,C.mt⟩
 . exact⟨C.rb,C.mb⟩
 . exact⟨C.rh,C.mh⟩
theorem CK {s R:Int}{S:YS}{es:List Ev}(C:Cts s R S (th .asked es) (th .answered es) (th .taken es).length (th .handed es).length) (g:Bool) :
 ((th (mB g) es).length:Int) - (ctV S es (iu g)).1 <= s/\(ctV S es (iu g)).1 <= (ctV S es (mB g)).2/\∀ k:Nat,(th (iu g) es).length <= k->k < (th (mB g) es).length->rdP S.m (S.rs g) g ((k:Int) % s)=(th (mB g) es)[k]?:=by
 cases g with
|false=>exact⟨C.la,C.ta,C.pa⟩
|true=>exact⟨C.lb,C.hb,C.pb⟩
def xi (w:World) (ad:Ad):Sp:=λvs H Q _=>∃ (a:YA) (S:YS) (st:Addr) (zs:List V) (es:List Ev) (s R:Int) (n:Nat),vs=[.ref a.y,.ref st,.int s,.int R]/\Yn w ad.bx ad.dQ ad.bu ad.cr ad.aJ H a (yp0 s R n) S/\Q30 s R n S es/\R <= 4/\(∀ b,(S.rs b).length < 1000)/\H st=some (.lst zs)/\Paired (EvR H) es zs/\es.length < 1000/\∀ H',bG H H'->Q (.bl true) H'
theorem xj (G:Gs K mg a d):FnOk P w K mg base CX0 4 a.eG d.eG ["yard","story","size","rounds"] (xi w a):=by
 have c_Yard_store:FnOk P w K mg base CX0 1 _ _ _ _:=tX G;have c_law_things:FnOk P w K mg base CX0 1 _ _ _ _:=ku G;have c_law_counts:FnOk P w K mg base CX0 3 _ _ _ _:=qb G;have c_Store_read:FnOk P w K mg base CX0 2 _ _ _ _:=FnOk.or ((l7 G).imp λvs H Q E=>F0) ((l7 G).imp λvs H Q E=>Gk);have c_Store_memory:FnOk P w K mg base CX0 1 _ _ _ _:=(oq G).imp λvs H Q E=>HC
 refine G.mo.ok aV (λvs H Q E h=>?_) (λcdv A' outer s' H vs Q E hr h=>?_)
 . obtain⟨y,S,st,zs,es,s,R,n,rfl,_⟩:=h;rfl
 . obtain⟨y,S,st,zs,es,s,R,n,rfl,Y,Q3,R4,rl,hst,pr,hl,k⟩:=h;have hu:=eZ hr;refine⟨_,((@aK _ _ 4 _ _ _ _ aV.nd rfl (Or.inl rfl) (bf (pv 0) G.am G.kQ c_Yard_store (hr.mono (by decide)) G.m9 .nil ay) (by rfl) (by exact .inl rfl))∪((@aK _ _ 5 _ _ _ _ aV.nd rfl (Or.inl rfl) (aS c_law_counts (hr.mono (by decide)) (by rfl) G.lV G.iR.kp G.mi .nil ay ((pv 0)∣((pv 1)∣a9))) (by rfl) (by exact .inl rfl))∪((@iJ _ _ _ _ _ _ _ _ PassesOwn.never rfl (@eV _ _ _ _ (@bV _ _ _ _ ((@aO _ _ _ _ _ (ac∣(ai∣a9)))∣((@aO _ _ _ _ _ (ac∣(ai∣a9)))∣((@aO _ _ _ _ _ (ac∣(ai∣a9)))∣((@aO _ _ _ _ _ (ac∣(ai∣a9)))∣a9)))))) (@jw _ _ _ _ _ _ rfl (@b8 _ _ _ _ _ (aR (i:=6) aV.nd rfl (Or.inl rfl)) (@b8 _ _ _ _ _ (aR (i:=7) aV.nd rfl (Or.inl rfl)) gn (by rfl)) (by rfl)) (by rfl) (by rfl)) ((@iI _ _ _ _ _ _ (eY hu (pv 5) (pv 7) (λ_ _=>rfl)) (@jw _ _ _ _ _ _ rfl (@b8 _ _ _ _ _ (aR (i:=8) aV.nd rfl (Or.inl rfl)) (@b8 _ _ _ _ _ (aR (i:=9) aV.nd rfl (Or.inl rfl)) gn (by rfl)) (by rfl)) (by rfl) (by rfl)) (by rfl) (by rfl) (by rfl))∪(@ap _ _ _ (@aL _ _ _ _ _ _ _ _ ((uH (ao (u9 hr.units) (aB (pv 4) G.aA G.bH c_Store_read (hr.mono (by decide)) G.bY .nil ay ((pv 6)∣((pv 7)∣a9))) (@aN _ _ _ _ _ _ _ _ bS (pv 8) (@aN _ _ _ _ _ _ _ _ qm (pv 2) (pv 3))) (av _)) (qe (ao (u9 hr.units) (aB (pv 4) G.aA G.fG c_Store_memory (hr.mono (by decide)) G.gs .nil ay ((pv 7)∣a9)) (@aN _ _ _ _ _ _ _ _ bS (pv 9) (@aN _ _ _ _ _ _ _ _ qm (pv 2) (pv 3))) (av _))))).pt (eg⁻¹) aj))) (by intro _;rfl))∪((@iJ _ _ _ _ _ _ _ _ PassesOwn.never rfl (@eV _ _ _ _ (@bV _ _ _ _ ((@aO _ _ _ _ _ (ac∣(ai∣(ai∣(ai∣a9)))))∣((@aO _ _ _ _ _ (ac∣(ai∣(ai∣(ai∣a9)))))∣a9)))) (@jw _ _ _ _ _ _ rfl (@b8 _ _ _ _ _ (aR (i:=6) aV.nd rfl (Or.inl rfl)) (@b8 _ _ _ _ _ (aR (i:=7) aV.nd rfl (Or.inl rfl)) (@b8 _ _ _ _ _ (aR (i:=10) aV.nd rfl (Or.inl rfl)) (@b8 _ _ _ _ _ (aR (i:=11) aV.nd rfl (Or.inl rfl)) gn (by rfl)) (by rfl)) (by rfl)) (by rfl)) (by rfl) (by rfl)) ((@aK _ _ 12 _ _ _ _ aV.nd rfl (Or.inl rfl) (aS c_law_things (hr.mono (by decide)) (by rfl) G.gi G.eS.kp G.gk .nil ay ((pv 1)∣((pv 7)∣a9))) (by rfl) (by exact .inl rfl))∪((@aL _ _ _ _ _ _ _ _ ((uH (ao BJ (@aN _ _ _ _ _ _ _ _ kM (aI bq (by rfl) G.lc gR ((pv 12)∣a9)) (@ax _ _ _ _ _ _ _ ar (eY hu (pv 5) (pv 10) (λ_ _=>rfl)) ac (λ_ _=>rfl))) (pv 2) (av _)) (qe (ao BJ (@ax _ _ _ _ _ _ _ ar (eY hu (pv 5) (pv 10) (λ_ _=>rfl)) ac (λ_ _=>rfl)) (@ax _ _ _ _ _ _ _ ar (eY hu (pv 5) (pv 7) (λ_ _=>rfl)) ac (λ_ _=>rfl)) (av _))))).pt (eg⁻¹) aj)∪(@ap _ _ _ (@iJ _ _ _ _ _ _ _ _ PassesOwn.never rfl (zD (by rfl) G.qL ((@ax _ _ _ _ _ _ _ ar (eY hu (pv 5) (pv 10) (λ_ _=>rfl)) ac (λ_ _=>rfl))∣((aI bq (by rfl) G.lc gR ((pv 12)∣a9))∣a9))) (aR (i:=13) aV.nd rfl (Or.inl rfl)) (@ap _ _ _ (@aL _ _ _ _ _ _ _ _ (ao (u9 hr.units) (aB (pv 4) G.aA G.bH c_Store_read (hr.mono (by decide)) G.bY .nil ay ((pv 6)∣((@aO _ _ _ _ _ ((pv 11)∣((@aN _ _ _ _ _ _ _ _ bS (pv 13) (pv 2))∣a9)))∣a9))) (@ax _ _ _ _ _ _ _ bo (pv 12) (pv 13) (λ_ _=>rfl)) (av _)) (eg⁻¹) aj)) (by intro _;rfl))))) (by intro _;rfl))∪(eg⁻¹))))),?_⟩;have C:=Q3.m.cts;have s0:0 < s:=by have M:=Q3.m;unfold M30 at M;exact M.s0
   have s8:s <= 8:=by have M:=Q3.m;unfold M30 at M;exact M.s8
   have R2:2 <= R:=by have M:=Q3.m;unfold M30 at M;exact M.R2
   have sR:0 < s * R:=Int.mul_pos s0 (by omega);refine⟨_,rfl,gO Y.ob (jM (by decide +kernel)) ⟨y,_,S,rfl,Y,?_⟩⟩;refine⟨_,rfl,_,rfl,y,_,S,st,zs,es,rfl,Y,rl,hst,pr,hl,λp H1 e1 _ ct=>?_⟩;refine⟨l2,λr1 n1=>⟨l2,λr2 n2=>⟨l2,λr3 n3=>⟨l2,λr4 n4=>⟨by show 4 <= sizeLine;decide,λlp nl=>⟨lp,rfl,⟨_,SqL.of a6⟩,?_⟩⟩⟩⟩⟩⟩;have f1:=ag (o:=.tup [V.int 0,V.str "asked"]) n1;have f2:=ag (o:=.tup [V.int 1,V.str "taken"]) n2;have f3:=ag (o:=.tup [V.int 1,V.str "answered"]) n3;have f4:=ag (o:=.tup [V.int 0,V.str "handed"]) n4;have f5:=ag (o:=.lst [V.ref r1,V.ref r2,V.ref r3,V.ref r4]) nl;have g1:=f5 _ _ (f4 _ _ (f3 _ _ (f2 _ _ (a6 (H:=H1) (a:=r1) (o:=.tup [V.int 0,V.str "asked"])))));have g2:=f5 _ _ (f4 _ _ (f3 _ _ (a6 (a:=r2) (o:=.tup [V.int 1,V.str "taken"]))));have g3:=f5 _ _ (f4 _ _ (a6 (a:=r3) (o:=.tup [V.int 1,V.str "answered"])));have g4:=f5 _ _ (a6 (a:=r4) (o:=.tup [V.int 0,V.str "handed"]));have g5:=a6 (H:=upd (upd (upd (upd H1 r1 (.tup [V.int 0,V.str "asked"])) r2 (.tup [V.int 1,V.str "taken"])) r3 (.tup [V.int 1,V.str "answered"])) r4 (.tup [V.int 0,V.str "handed"])) (a:=lp) (o:=.lst [V.ref r1,V.ref r2,V.ref r3,V.ref r4]);have e2:=e1.trans (f1.trans (f2.trans (f3.trans (f4.trans f5))));have ct:=ct.same (f1.trans (f2.trans (f3.trans (f4.trans f5))));clear f1 f2 f3 f4 f5;generalize upd (upd (upd (upd (upd H1 r1 _) r2 _) r3 _) r4 _) lp _=H2 at e2 g1 g2 g3 g4 g5 ct |-;clear e1;have Y2:=Y.same e2;refine gf (K:=K) (a:=lp) (xs:=[V.ref r1,V.ref r2,V.ref r3,V.ref r4]) (λi σ H3=>(∃ v6 v7 v8 v9 v10 v11 v12 v13,σ=[some (.ref y.y),some (.ref st),some (.int s),some (.int R),some (.ref y.sa.x),some (.ref p),v6,v7,v8,v9,v10,v11,v12,v13])/\H3=H2)
    ⟨⟨_,_,_,_,_,_,_,_,rfl⟩,rfl⟩ (λ_ _ _ _ ⟨_,z⟩=>by rw[z];exact SqL.of g5) ?_ ?_
   . rintro i x σ H3 hi ⟨⟨v6,v7,v8,v9,v10,v11,v12,v13,rfl⟩,rfl⟩;obtain⟨kk,r,rfl,hr3,hkn⟩:∃ (kk:Cn) (r:Addr),x=.ref r/\H3 r=some (.tup [.int (sdI (cnS kk)),.str kk.key])/\kk∈qd:=by
      match i,hi with
     |0,hi=>cases hi;exact⟨.asked,r1,rfl,g1,by decide⟩
     |1,hi=>cases hi;exact⟨.taken,r2,rfl,g2,by decide⟩
     |2,hi=>cases hi;exact⟨.answered,r3,rfl,g3,by decide⟩
     |3,hi=>cases hi;exact⟨.handed,r4,rfl,g4,by decide⟩
     |_+4,hi=>cases hi
     refine⟨r,_,rfl,SqT.of hr3,rfl,_,_,rfl,_,_,rfl,rfl,?_⟩;obtain⟨t,dg,ht⟩:=ct.get hkn;obtain⟨c1,c2⟩:=BH C hkn;refine⟨_,rfl,_,rfl,p,_,rfl,dg,t,_,rfl,SqT.of ht,rfl,_,_,rfl,_,_,rfl,rfl,?_⟩;refine⟨_,rfl,gO Y2.x.st.ob (bW (by decide +kernel) (by decide +kernel)) ⟨_,rfl,_,rfl,?_⟩⟩;refine .inl ⟨y.sa,S.m,S.rs,cnS kk,kk,rfl,Y2.x.st,?_⟩;refine⟨_,rfl,_,rfl,_,rfl,_,_,rfl,rfl,lv (by omega) (by omega),_,_,rfl,rfl,sR,.int _,.int _,rfl,rfl,mF.int _,mF.int _,_,rfl,?_⟩;rw[if_pos rfl,c1,um (mF.int _)];refine cU ?_;refine⟨_,rfl,gO Y2.x.st.ob (bW (by decide +kernel) (by decide +kernel)) ⟨_,rfl,?_⟩⟩;refine⟨y.sa,S.m,S.rs,kk,rfl,Y2.x.st,?_⟩;refine⟨_,rfl,_,rfl,_,rfl,_,_,rfl,rfl,lv (by omega) (by omega),_,_,rfl,rfl,sR,.int _,.int _,rfl,rfl,mF.int _,mF.int _,_,rfl,?_⟩;rw[if_pos rfl,c2,um (mF.int _)];exact cU ⟨⟨_,_,_,_,_,_,_,_,rfl⟩,rfl⟩
   . rintro σ H3 ⟨⟨v6,v7,v8,v9,v10,v11,v12,v13,rfl⟩,rfl⟩;clear g1 g2 g3 g4 g5;refine⟨by show 4 <= sizeLine;decide,λr1 n1=>⟨by show 4 <= sizeLine;decide,λr2 n2=>⟨l2,λlp nl=>⟨lp,rfl,⟨_,SqL.of a6⟩,?_⟩⟩⟩⟩;have f1:=ag (o:=.tup [V.int 0,V.str "asked",V.str "taken",V.str "ask"]) n1;have f2:=ag (o:=.tup [V.int 1,V.str "answered",V.str "handed",V.str "answer"]) n2;have f5:=ag (o:=.lst [V.ref r1,V.ref r2]) nl;have g1:=f5 _ _ (f2 _ _ (a6 (H:=H3) (a:=r1) (o:=.tup [V.int 0,V.str "asked",V.str "taken",V.str "ask"])));have g2:=f5 _ _ (a6 (a:=r2) (o:=.tup [V.int 1,V.str "answered",V.str "handed",V.str "answer"]));have g5:=a6 (H:=upd (upd H3 r1 (.tup [V.int 0,V.str "asked",V.str "taken",V.str "ask"])) r2 (.tup [V.int 1,V.str "answered",V.str "handed",V.str "answer"])) (a:=lp) (o:=.lst [V.ref r1,V.ref r2]);have e4:=f1.trans (f2.trans f5);clear f1 f2 f5;generalize upd (upd (upd H3 r1 _) r2 _) lp _=H4 at e4 g1 g2 g5 |-;have E4:=e2.trans e4;have ct4:=ct.same e4;refine gf (K:=K) (a:=lp) (xs:=[V.ref r1,V.ref r2]) (λi σ H5=>(∃ v6 v7 v10 v11 v12 v13,σ=[some (.ref y.y),some (.ref st),some (.int s),some (.int R),some (.ref y.sa.x),some (.ref p),v6,v7,v8,v9,v10,v11,v12,v13])/\bG H4 H5)
      ⟨⟨_,_,_,_,_,_,rfl⟩,λ_ _ e=>e⟩ (λ_ _ _ _ ⟨_,z⟩=>SqL.of (z _ _ g5)) ?_ ?_
     . rintro i x σ H5 hi ⟨⟨v6,v7,v10,v11,v12,v13,rfl⟩,e5⟩;obtain⟨g,r,rfl,hr5⟩:∃ (g:Bool) (r:Addr),x=.ref r/\H5 r=some (.tup [.int (sdI g),.str (mB g).key,.str (iu g).key,.str (j5 g)]):=by
        match i,hi with
       |0,hi=>cases hi;exact⟨false,r1,rfl,e5 _ _ g1⟩
       |1,hi=>cases hi;exact⟨true,r2,rfl,e5 _ _ g2⟩
       |_+2,hi=>cases hi
       refine⟨r,_,rfl,SqT.of hr5,rfl,_,_,rfl,_,_,rfl,_,_,rfl,_,_,rfl,rfl,?_⟩;have E5:=E4.trans e5;obtain⟨c1,c2,c3⟩:=CK C g;have lg:mB g∈qd:=by cases g<;>decide
       have gg:iu g∈qd:=by cases g<;>decide
       refine⟨_,rfl,_,rfl,st,zs,es,mB g,rfl,E5 _ _ hst,dN pr E5,hl,λq ys H6 e6 _ hq py=>?_⟩;have yl:ys.length=(th (mB g) es).length:=by have:=aX py;omega
       have ct6:=ct4.same (e5.trans e6);obtain⟨t1,dg1,ht1⟩:=ct6.get lg;obtain⟨t2,dg2,ht2⟩:=ct6.get gg;refine⟨_,rfl,q,_,rfl,.inl (SqL.of hq),_,rfl,_,rfl,p,_,rfl,dg2,t2,_,_,_,rfl,rfl,SqT.of ht2,aq,_,_,rfl,rfl,_,rfl,_,_,rfl,rfl,_,rfl,?_⟩;refine cf (by rw[decide_eq_true_eq,yl];omega) ?_;refine⟨_,rfl,_,rfl,p,_,rfl,dg2,t2,_,_,_,rfl,rfl,SqT.of ht2,aq,_,rfl,_,rfl,p,_,rfl,dg1,t1,_,_,_,rfl,rfl,SqT.of ht1,rfl,_,_,rfl,rfl,_,rfl,?_⟩;refine cf (by rw[decide_eq_true_eq];omega) ?_;have tl:=vi (mB g) es;have tl2:=vi (iu g) es;refine⟨_,rfl,_,rfl,p,_,rfl,dg2,t2,_,_,_,rfl,rfl,SqT.of ht2,aq,_,rfl,q,_,rfl,.inl (SqL.of hq),_,_,rfl,⟨?_,?_,?_,?_⟩,?_⟩
       . show -(2 ^ 62) <= ((th (iu g) es).length:Int);omega
       . show ((th (iu g) es).length:Int) < 2 ^ 62;omega
       . omega
       . omega
       refine kI (λj σ H7=>(∃ v13,σ=[some (.ref y.y),some (.ref st),some (.int s),some (.int R),some (.ref y.sa.x),some (.ref p),some (.int (sdI g)),some (.str (mB g).key),v8,v9,some (.str (iu g).key),some (.str (j5 g)),some (.ref q),v13])/\bG H6 H7)
        ⟨⟨_,rfl⟩,λ_ _ e=>e⟩ ?_ ?_
       . rintro j σ H7 hj ⟨⟨v13,rfl⟩,e7⟩;have hjl:(th (iu g) es).length+j < (th (mB g) es).length:=by
          have hj':j < (((ys.length:Nat):Int) - (ctV S es (iu g)).1).toNat:=hj;rw[yl]at hj';have:(ctV S es (iu g)).1=((th (iu g) es).length:Int):=rfl;omega
         have E7:=E5.trans (e6.trans e7);have Y7:=Y.same E7;have kv:(ctV S es (iu g)).1+(j:Int)=(((th (iu g) es).length+j:Nat):Int):=by show ((th (iu g) es).length:Int)+j=_;omega
         obtain⟨z,hz,tt,rfl,htt⟩:=Paired.at' py (getElem?_eq_getElem hjl);refine⟨_,rfl,gO Y7.x.st.ob (bW (by decide +kernel) (by decide +kernel)) ⟨_,rfl,_,rfl,_,rfl,_,rfl,_,_,rfl,rfl,s0,l2,λt ht=>?_⟩⟩;have e8:=ag (o:=.tup [V.str (j5 g),V.int (((ctV S es (iu g)).1+(j:Int)) % s)]) ht;have v8':=a6 (H:=H7) (a:=t) (o:=.tup [V.str (j5 g),V.int (((ctV S es (iu g)).1+(j:Int)) % s)]);generalize upd H7 t _=H8 at e8 v8' |-;have Y8:=Y7.same e8;refine .inr ⟨y.sa,S.m,S.rs,g,g,_,t,(th (mB g) es)[(th (iu g) es).length+j],rfl,Y8.x.st,v8',?_,λc hc=>?_⟩
         . rw[kv,c3 _ (by omega) hjl,getElem?_eq_getElem hjl]
         . have h8:=e7.trans e8;refine⟨_,rfl,_,rfl,q,_,_,_,rfl,rfl,SqL.of (h8 _ _ hq),by rw[kv];exact lY hz,_,_,DV2 hc,DV2 (h8 _ _ htt),⟨rfl,by show 1 <= 16;decide⟩,⟨rfl,by show 1 <= 16;decide⟩,_,rfl,?_⟩;rw[if_pos rfl,um ⟨rfl,by show 1 <= 16;decide⟩];exact cU ⟨⟨_,rfl⟩,h8⟩
       . rintro σ H7 ⟨⟨v13,rfl⟩,e7⟩;exact⟨⟨_,_,_,_,_,_,rfl⟩,e5.trans (e6.trans e7)⟩
     . rintro σ H5 ⟨⟨v6,v7,v10,v11,v12,v13,rfl⟩,e5⟩;exact k H5 (E4.trans e5)
theorem AR {n m:Nat}{un:List Int}{k:Int}(h:bw n un=some k) (hm:n <= m):bw m un=some k:=by
 obtain⟨d,rfl⟩:=Nat.exists_eq_add_of_le hm;clear hm
 induction d with
|zero=>exact h
|succ d ih =>
  unfold bw at ih |-;rw[<-Nat.add_assoc,List.range_succ,map_append,List.find?_append,ih];rfl
theorem AI {n:Nat}{us un:List Int}(h:us.Perm un):bw n us=bw n un:=by
 unfold bw;congr 1;funext k;rw[contains_eq_mem,contains_eq_mem,decide_eq_decide.mpr h.mem_iff]
def wks:Dd->Prop
|.ask _=>True
|.collect=>True
|.take=>True
|.answer _ _=>True
|_=>False
def Dm (w:World) (ad:Ad):Sp:=λvs H Q _=>∃ (a:YA) (S:YS) (st t:Addr) (zs:List V) (es:List Ev) (s R:Int) (n:Nat) (x:Dd),vs=[.ref a.y,.ref st,.ref t,.int s,.int n]/\Yn w ad.bx ad.dQ ad.bu ad.cr ad.aJ H a (yp0 s R n) S/\Q31 s R n S es/\(∀ b,(S.rs b).length < 1000)/\H st=some (.lst zs)/\Paired (EvR H) es zs/\es.length < 1000/\H t=some (.tup x.vs)/\wks x/\S.bd x.side=.up /\
 ∀ (r:Addr) (v:V) (H':Hp),bG H H'->H r=none->H' r=some (.tup [.str (x.out (yp0 s R n) S).1,v])->DV H' (x.out (yp0 s R n) S).2.1 v->Q (.ref r) H'
theorem DW (G:Gs K mg a d):FnOk P w K mg base CX0 4 a.jY d.jY ["yard","story","deed","size","many"] (Dm w a):=by
 have c_law_things:FnOk P w K mg base CX0 1 _ _ _ _:=ku G;have c_law_counts:FnOk P w K mg base CX0 3 _ _ _ _:=qb G;have c_law_names:FnOk P w K mg base CX0 2 _ _ _ _:=tS G;refine G.sY.ok fj (λvs H Q E h=>?_) (λcdv A' outer s' H vs Q E hr h=>?_)
 . obtain⟨y,S,st,t,zs,es,s,R,n,x,rfl,_⟩:=h;rfl
 . obtain⟨y,S,st,t,zs,es,s,R,n,x,rfl,Y,Q3,rl,hst,pr,hl,ht,wk,up,k⟩:=h;have hu:=eZ hr;refine⟨_,((@aK _ _ 5 _ _ _ _ fj.nd rfl (Or.inl rfl) (aS c_law_counts (hr.mono (by decide)) (by rfl) G.lV G.iR.kp G.mi .nil ay ((pv 0)∣((pv 1)∣a9))) (by rfl) (by exact .inl rfl))∪((@iI _ _ _ _ _ _ (aS c_law_names (hr.mono (by decide)) (by rfl) G.nV G.jI.kp G.o7 .nil ay ((pv 1)∣a9)) (@jw _ _ _ _ _ _ rfl (@b8 _ _ _ _ _ (aR (i:=6) fj.nd rfl (Or.inr rfl)) (@b8 _ _ _ _ _ (aR (i:=7) fj.nd rfl (Or.inl rfl)) gn (by rfl)) (by rfl)) (by rfl) (by rfl)) (by rfl) (by rfl) (by rfl))∪((@aL _ _ _ _ _ _ _ _ (ao cm (@ax _ _ _ _ _ _ _ ar (pv 2) ac (λ_ _=>rfl)) ai (av _)) ((@aL _ _ _ _ _ _ _ _ (ao cm (@aN _ _ _ _ _ _ _ _ kM (@ax _ _ _ _ _ _ _ ar (eY hu (pv 5) ai (λ_ _=>rfl)) ac (λ_ _=>rfl)) (@ax _ _ _ _ _ _ _ ar (eY hu (pv 5) ai (λ_ _=>rfl)) ac (λ_ _=>rfl))) (pv 3) (av _)) ((@aO _ _ _ _ _ (ai∣(cq∣a9)))⁻¹) aj)∪((@aL _ _ _ _ _ _ _ _ (ao cm (aI bq (by rfl) G.lc gR ((pv 6)∣a9)) (pv 4) (av _)) ((@aO _ _ _ _ _ (ai∣(cq∣a9)))⁻¹) aj)∪((@aO _ _ _ _ _ (ai∣((@ax _ _ _ _ _ _ _ bo (by exact o6 (tc:=yM (tOp (rIn K true) (pc 0) (pc 1))) (te:=pc 0) (caps:=["names"]) (js:=[6]) rfl (lX rfl rfl (by decide +kernel) (by decide +kernel) rfl ⟨rfl,trivial⟩ rfl rfl) (by decide +kernel) ⟨⟨⟨_,rfl⟩,rfl,.inl rfl,.inl rfl⟩,trivial⟩ (nN (by rfl) G.qL (ac∣a9)) (λC s₃ H₃ pins ex E'=>by exact rc (ao dG (pv 0) (pv 1) (by with_unfolding_all rfl))) (λC s₃ H₃ pins ex E'=>by exact(pv 0))) ac (λ_ _=>rfl))∣a9)))⁻¹))) aj)∪((@aL _ _ _ _ _ _ _ _ (ao cm (@ax _ _ _ _ _ _ _ ar (pv 2) ac (λ_ _=>rfl)) ai (av _)) ((@aL _ _ _ _ _ _ _ _ (ao dG (@ax _ _ _ _ _ _ _ ar (pv 2) ac (λ_ _=>rfl)) (pv 7) (by with_unfolding_all rfl)) ((@aO _ _ _ _ _ (ai∣(cq∣a9)))⁻¹) aj)∪((@ax _ _ _ _ _ _ _ bo (@bV _ _ _ _ ((@aO _ _ _ _ _ (ai∣(cq∣a9)))∣((@aO _ _ _ _ _ (ai∣(cq∣a9)))∣a9))) (br km (by rfl) G.uW nB ((ci cm (@aN _ _ _ _ _ _ _ _ kM (@ax _ _ _ _ _ _ _ ar (eY hu (pv 5) ai (λ_ _=>rfl)) ac (λ_ _=>rfl)) (@ax _ _ _ _ _ _ _ ar (eY hu (pv 5) ai (λ_ _=>rfl)) ac (λ_ _=>rfl))) (pv 3) (av _))∣a9)) (λ_ _=>rfl))⁻¹)) aj)∪((@iI _ _ _ _ _ _ (@ax _ _ _ _ _ _ _ bo (@bV _ _ _ _ ((@aO _ _ _ _ _ (ai∣(ai∣a9)))∣((@aO _ _ _ _ _ (ai∣(ai∣a9)))∣a9))) (br km (by rfl) G.uW nB ((ci cm (@ax _ _ _ _ _ _ _ ar (pv 2) ac (λ_ _=>rfl)) ai (av _))∣a9)) (λ_ _=>rfl)) (@jw _ _ _ _ _ _ rfl (@b8 _ _ _ _ _ (aR (i:=8) fj.nd rfl (Or.inl rfl)) (@b8 _ _ _ _ _ (aR (i:=9) fj.nd rfl (Or.inl rfl)) gn (by rfl)) (by rfl)) (by rfl) (by rfl)) (by rfl) (by rfl) (by rfl))∪((@aL _ _ _ _ _ _ _ _ (ao cm (@ax _ _ _ _ _ _ _ ar (eY hu (pv 5) (pv 8) (λ_ _=>rfl)) ac (λ_ _=>rfl)) (@ax _ _ _ _ _ _ _ ar (eY hu (pv 5) (pv 9) (λ_ _=>rfl)) ac (λ_ _=>rfl)) (av _)) ((@aO _ _ _ _ _ (ai∣(cq∣a9)))⁻¹) aj)∪((@aO _ _ _ _ _ (ai∣((@ax _ _ _ _ _ _ _ bo (aS c_law_things (hr.mono (by decide)) (by rfl) G.gi G.eS.kp G.gk .nil ay ((pv 1)∣((pv 8)∣a9))) (@ax _ _ _ _ _ _ _ ar (eY hu (pv 5) (pv 9) (λ_ _=>rfl)) ac (λ_ _=>rfl)) (λ_ _=>rfl))∣a9)))⁻¹))))))),?_⟩;have C:=Q3.q.m.cts;have n9:n <= 9:=by have M:=Q3.q.m;unfold M30 at M;exact M.n9
   have und:=Q3.und;have ul:=und.len (by omega);have kl:=Q3.tkd.len (by omega);refine⟨_,rfl,_,rfl,y,_,S,st,zs,es,rfl,Y,rl,hst,pr,hl,λp H1 e1 _ ct=>?_⟩;refine⟨_,rfl,st,zs,es,S.un,S.tk,rfl,e1 _ _ hst,dN pr e1,hl,Q3.pu,Q3.tp,by omega,by omega,λtn l1 l2' us ks H2 e2 _ htn pu su hl1 pk sk hl2=>?_⟩;refine⟨tn,_,rfl,SqT.of htn,rfl,_,_,rfl,_,_,rfl,rfl,?_⟩;have E2:=e1.trans e2;have ct2:=ct.same e2;have ht2:=E2 _ _ ht;obtain⟨tA,dA,hA⟩:=ct2.get (k:=.asked) (by decide);obtain⟨tT,dT,hT⟩:=ct2.get (k:=.taken) (by decide);obtain⟨tB,dB,hB⟩:=ct2.get (k:=.answered) (by decide);obtain⟨tH,dH,hH⟩:=ct2.get (k:=.handed) (by decide);have fin:∀ (H3:Hp) (r:Addr) (v:V),bG H2 H3->H3 r=none->DV (upd H3 r (.tup [.str (x.out (yp0 s R n) S).1,v])) (x.out (yp0 s R n) S).2.1 v->Q (.ref r) (upd H3 r (.tup [.str (x.out (yp0 s R n) S).1,v])):=λH3 r v e3 hr3 dv =>
    k r v _ ((E2.trans e3).trans (ag hr3)) (b9 (E2.trans e3) hr3) a6 dv
   refine⟨_,rfl,t,_,_,_,rfl,rfl,SqT.of ht2,x.at0,rfl,_,rfl,?_⟩;cases x with
  |bell b=>exact wk.elim
  |lie b=>exact wk.elim
  |look b=>exact wk.elim
  |drain b=>exact wk.elim
  |ask wt =>
    refine ic (decide_eq_true rfl) ?_;have hch:(Dd.ask wt).chk (yp0 s R n) S=(if az ⟨s,R,false⟩ S.m (S.rs false) .asked .taken=s then some Rf.full else match bw n S.un with|none=>some Rf.name|some _=>none):=if_pos up;refine⟨_,rfl,p,_,rfl,dA,tA,_,_,_,rfl,rfl,SqT.of hA,aq,_,rfl,p,_,rfl,dT,tT,_,_,_,rfl,rfl,SqT.of hT,rfl,_,_,rfl,rfl,_,rfl,rfl,_,rfl,?_⟩;have hv:(ctV S es .asked).1 - (ctV S es .taken).2=((th .asked es).length:Int) - (((th .taken es).length:Int) - (nC .taken (S.rs true):Nat)):=rfl;by_cases hf:az ⟨s,R,false⟩ S.m (S.rs false) .asked .taken=s
    . refine ic (decide_eq_true (by show V.int ((ctV S es .asked).1 - (ctV S es .taken).2)=V.int s;rw[hv,C.ca.mp hf])) ?_;rw[if_pos hf]at hch;rw[Dd.out_some hch]at fin;exact⟨l2,λr hr2=>fin _ r .non (λ_ _ e=>e) hr2 rfl⟩
    refine cf (λz=>hf (C.ca.mpr (by rw[<-hv];exact fh (of_decide_eq_true z)))) ?_;rw[if_neg hf]at hch;refine⟨_,rfl,l1,_,rfl,.inl (SqL.of hl1),_,rfl,rfl,_,rfl,?_⟩;have lu:((us.map V.int).length:Int)=S.un.length:=by rw[length_map,pu.length_eq]
    cases hle:bw n S.un with
   |none =>
     refine ic (decide_eq_true (by rw[lu,(sF und).mp hle])) ?_;rw[hle]at hch;rw[Dd.out_some hch]at fin;exact⟨l2,λr hr2=>fin _ r .non (λ_ _ e=>e) hr2 rfl⟩
   |some nm =>
     refine cf (λz=>by
      have z:=fh (of_decide_eq_true z);rw[lu]at z;rw[(sF und).mpr (by omega)]at hle;cases hle) ?_
     rw[hle]at hch;have e1':((Dd.ask wt).run (yp0 s R n) S).1=.int nm:=by
      show (match bw n S.un with|some nm=>_|none=>_:PyData × YS).1=_;rw[hle]
     rw[Dd.out_none hch,e1']at fin;have h9:bw 9 us=some nm:=by rw[AI pu];exact AR hle n9
     refine⟨9,rfl,by decide,by decide,λD hD=>?_⟩;refine⟨λi mm ys H'=>i <= 9/\mm=9 - i/\ys=(pH i us).map V.int/\H' D=some (.lst ys)/\∀ c o,c≠D->H2 c=some o->H' c=some o,⟨_,zero_le _,rfl,rfl,a6,λc o n e=>by rw[aa n];exact e⟩,?_⟩;rintro i mm ys H3 ⟨hi,rfl,rfl,hD3,k3⟩;have e3:bG H2 H3:=λc o e=>k3 c o (λy=>by rw[y,hD]at e;cases e) e
     have fl:(pH i us).length <= i:=by
      have h2:(pH i us).length <= _:=length_filter_le ..;rw[length_map,length_range]at h2;exact h2
     refine⟨hD3,Nat.lt_of_lt_of_le (show _ < 1000 by rw[length_map];omega) (by decide),?_⟩;by_cases hii:i=9
     . refine .inl ⟨by show (9:Int).toNat <= i;omega,?_⟩;subst hii;have hh:=yp 9 us;rw[h9]at hh;cases hfr:pH 9 us with
      |nil=>rw[hfr]at hh;cases hh
      |cons z zr =>
        rw[hfr]at hh hD3;cases hh;exact⟨D,_,_,_,rfl,rfl,SqL.of hD3,aq,l2,λr hr2=>fin _ r _ e3 hr2 rfl⟩
     . refine .inr ⟨by show i < (9:Int).toNat;omega,?_⟩;rintro v H4 ⟨rfl,rfl⟩;have sn:=z9 i us;refine⟨_,rfl,_,rfl,l1,_,rfl,.inl (SqL.of (e3 _ _ hl1)),rfl,mR,_,rfl,?_⟩;rw[if_pos rfl,show V.int (0+(i:Int))=V.int (i:Int) by rw[Int.zero_add],lA];cases hc:us.contains (i:Int) with
      |true =>
        rw[hc,if_pos rfl]at sn;exact cU ⟨_,by omega,by omega,rfl,by rw[sn],by rw[sn]at *;exact hD3,k3⟩
      |false =>
        rw[hc,if_neg (by decide)]at sn;refine fX ⟨_,rfl,hD3,_,?_,?_,rfl,?_,a6,λc o n e=>by rw[aa n];exact k3 c o n e⟩
        . omega
        . omega
        . rw[sn,map_append];rfl
  |answer nm wt =>
    refine cf (by rw[decide_eq_true_eq];exact sne (show ¬ (("answer":Str)="ask") by decide +kernel)) ?_;refine⟨_,rfl,t,_,_,_,rfl,rfl,SqT.of ht2,aq,rfl,_,rfl,?_⟩;refine ic (decide_eq_true rfl) ?_;have hch:(Dd.answer nm wt).chk (yp0 s R n) S=(if S.tk.contains nm=false then some Rf.task else if az ⟨s,R,false⟩ S.m (S.rs true) .answered .handed=s then some Rf.full else none):=if_pos up;refine⟨_,rfl,t,_,_,_,rfl,rfl,SqT.of ht2,rfl,_,rfl,l2',_,rfl,.inl (SqL.of hl2),rfl,mR,_,rfl,?_⟩;rw[if_pos rfl,lA];have hks:ks.contains nm=S.tk.contains nm:=by rw[contains_eq_mem,contains_eq_mem,decide_eq_decide.mpr pk.mem_iff]
    rw[hks];cases hc:S.tk.contains nm with
   |false =>
     rw[hc,if_pos rfl]at hch;rw[Dd.out_some hch]at fin;exact fX ⟨l2,λr hr2=>fin _ r .non (λ_ _ e=>e) hr2 rfl⟩
   |true =>
     rw[hc,if_neg (by decide)]at hch;refine cU ?_;refine⟨l2,λa1 n1=>⟨l2,λa2 n2=>⟨l2,λll nll=>?_⟩⟩⟩;have f1:=ag (o:=.tup [V.str "none",V.non]) n1;have f2:=ag (o:=.tup [V.str "full",V.non]) n2;have f3:=ag (o:=.lst [V.ref a1,V.ref a2]) nll;have g1:=f3 _ _ (f2 _ _ (a6 (H:=H2) (a:=a1) (o:=.tup [V.str "none",V.non])));have g2:=f3 _ _ (a6 (a:=a2) (o:=.tup [V.str "full",V.non]));have g3:=a6 (H:=upd (upd H2 a1 (.tup [V.str "none",V.non])) a2 (.tup [V.str "full",V.non])) (a:=ll) (o:=.lst [V.ref a1,V.ref a2]);have f4:=f1.trans (f2.trans f3);have na1:H2 a1=none:=n1;have na2:H2 a2=none:=b9 f1 n2;clear f1 f2 f3;generalize upd (upd (upd H2 a1 _) a2 _) ll _=H3 at f4 g1 g2 g3 |-;obtain⟨tB,dB,hB⟩:=(ct2.same f4).get (k:=.answered) (by decide);obtain⟨tH,dH,hH⟩:=(ct2.same f4).get (k:=.handed) (by decide);refine⟨_,rfl,p,_,rfl,dB,tB,_,_,_,rfl,rfl,SqT.of hB,aq,_,rfl,p,_,rfl,dH,tH,_,_,_,rfl,rfl,SqT.of hH,rfl,_,_,rfl,rfl,_,rfl,rfl,.inr ⟨_,rfl,?_⟩⟩;have hv:(ctV S es .answered).1 - (ctV S es .handed).2=((th .answered es).length:Int) - (((th .handed es).length:Int) - (nC .handed (S.rs false):Nat)):=rfl;by_cases hf:az ⟨s,R,false⟩ S.m (S.rs true) .answered .handed=s
     . rw[if_pos hf]at hch;rw[Dd.out_some hch]at k;rw[decide_eq_true (show V.int ((ctV S es .answered).1 - (ctV S es .handed).2)=V.int s by rw[hv,C.cb.mp hf])];exact⟨ll,_,_,_,rfl,rfl,SqL.of g3,rfl,k a2 .non H3 (E2.trans f4) (b9 E2 na2) g2 rfl⟩
     . rw[if_neg hf]at hch;rw[Dd.out_none hch]at k;rw[decide_eq_false (show ¬ V.int ((ctV S es .answered).1 - (ctV S es .handed).2)=V.int s from λz=>hf (C.cb.mpr (by rw[<-hv];exact fh z)))];exact⟨ll,_,_,_,rfl,rfl,SqL.of g3,rfl,k a1 .non H3 (E2.trans f4) (b9 E2 na1) g1 rfl⟩
  |take =>
    refine cf (by rw[decide_eq_true_eq];exact sne (show ¬ (("take":Str)="ask") by decide +kernel)) ?_;refine⟨_,rfl,t,_,_,_,rfl,rfl,SqT.of ht2,aq,rfl,_,rfl,?_⟩;refine cf (by rw[decide_eq_true_eq];exact sne (show ¬ (("take":Str)="answer") by decide +kernel)) ?_;refine⟨l2,λa1 n1=>⟨l2,λa2 n2=>⟨l2,λll nll=>?_⟩⟩⟩;have f1:=ag (o:=.tup [V.str "asked",V.str "taken"]) n1;have f2:=ag (o:=.tup [V.str "answered",V.str "handed"]) n2;have f3:=ag (o:=.lst [V.ref a1,V.ref a2]) nll;have g1:=f3 _ _ (f2 _ _ (a6 (H:=H2) (a:=a1) (o:=.tup [V.str "asked",V.str "taken"])));have g3:=a6 (H:=upd (upd H2 a1 (.tup [V.str "asked",V.str "taken"])) a2 (.tup [V.str "answered",V.str "handed"])) (a:=ll) (o:=.lst [V.ref a1,V.ref a2]);have f4:=f1.trans (f2.trans f3);clear f1 f2 f3;generalize upd (upd (upd H2 a1 _) a2 _) ll _=H3 at f4 g1 g3 |-;refine⟨_,rfl,t,_,_,_,rfl,rfl,SqT.of (f4 _ _ ht2),aq,rfl,.inr ⟨_,rfl,?_⟩⟩;rw[decide_eq_false (sne (show ¬ (("take":Str)="collect") by decide +kernel))];refine⟨ll,_,_,_,rfl,rfl,SqL.of g3,rfl,a1,_,rfl,SqT.of g1,rfl,_,_,rfl,_,_,rfl,rfl,?_⟩;obtain⟨tA,dA,hA⟩:=(ct2.same f4).get (k:=.asked) (by decide);obtain⟨tT,dT,hT⟩:=(ct2.same f4).get (k:=.taken) (by decide);refine⟨_,rfl,_,rfl,p,_,rfl,dA,tA,_,_,_,rfl,rfl,SqT.of hA,rfl,_,rfl,_,rfl,p,_,rfl,dT,tT,_,_,_,rfl,rfl,SqT.of hT,aq,rfl,_,rfl,?_⟩;have hch:Dd.take.chk (yp0 s R n) S=none:=if_pos up;rw[Dd.out_none hch]at fin;have hv:(ctV S es .asked).2=((th .asked es).length:Int) - (nC .asked (S.rs false):Nat):=rfl;have hv2:(ctV S es .taken).1=((th .taken es).length:Int):=rfl;by_cases hz:az ⟨s,R,false⟩ S.m (S.rs true) .asked .taken=0
    . refine ic (decide_eq_true (by rw[hv,hv2,C.na.mp hz])) ?_;have e1':Dd.take.run (yp0 s R n) S=(.none,S):=if_pos hz;rw[e1']at fin;exact⟨l2,λr hr2=>fin _ r .non f4 hr2 rfl⟩
    . refine cf (λz=>hz (C.na.mpr (by rw[<-hv,<-hv2];exact fh (of_decide_eq_true z)))) ?_;obtain⟨nw,h1,e1',_⟩:=Q3.q.take hz;have hlt:=(List.getElem?_eq_some_iff.mp h1).1;rw[e1']at fin;have E3:=E2.trans f4;refine⟨_,rfl,_,rfl,st,zs,es,.asked,rfl,E3 _ _ hst,dN pr E3,hl,λq ys H4 e4 _ hq py=>?_⟩;obtain⟨z,hz',tt,rfl,htt⟩:=Paired.at' py h1;obtain⟨tT,dT,hT⟩:=(ct2.same (f4.trans e4)).get (k:=.taken) (by decide);refine⟨_,rfl,_,rfl,p,_,rfl,dT,tT,_,_,_,rfl,rfl,SqT.of hT,aq,q,_,_,_,rfl,rfl,SqL.of hq,by rw[hv2];exact lY hz',l2,λr hr2=>fin _ r _ (f4.trans e4) hr2 ?_⟩;exact DV2 ((ag hr2) _ _ htt)
  |collect =>
    refine cf (by rw[decide_eq_true_eq];exact sne (show ¬ (("collect":Str)="ask") by decide +kernel)) ?_;refine⟨_,rfl,t,_,_,_,rfl,rfl,SqT.of ht2,aq,rfl,_,rfl,?_⟩;refine cf (by rw[decide_eq_true_eq];exact sne (show ¬ (("collect":Str)="answer") by decide +kernel)) ?_;refine⟨l2,λa1 n1=>⟨l2,λa2 n2=>⟨l2,λll nll=>?_⟩⟩⟩;have f1:=ag (o:=.tup [V.str "asked",V.str "taken"]) n1;have f2:=ag (o:=.tup [V.str "answered",V.str "handed"]) n2;have f3:=ag (o:=.lst [V.ref a1,V.ref a2]) nll;have g2:=f3 _ _ (a6 (a:=a2) (o:=.tup [V.str "answered",V.str "handed"]));have g3:=a6 (H:=upd (upd H2 a1 (.tup [V.str "asked",V.str "taken"])) a2 (.tup [V.str "answered",V.str "handed"])) (a:=ll) (o:=.lst [V.ref a1,V.ref a2]);have f4:=f1.trans (f2.trans f3);clear f1 f2 f3;generalize upd (upd (upd H2 a1 _) a2 _) ll _=H3 at f4 g2 g3 |-;refine⟨_,rfl,t,_,_,_,rfl,rfl,SqT.of (f4 _ _ ht2),aq,rfl,.inr ⟨_,rfl,?_⟩⟩;rw[decide_eq_true (show V.str "collect"=V.str "collect" from rfl)];refine⟨ll,_,_,_,rfl,rfl,SqL.of g3,rfl,a2,_,rfl,SqT.of g2,rfl,_,_,rfl,_,_,rfl,rfl,?_⟩;obtain⟨tB,dB,hB⟩:=(ct2.same f4).get (k:=.answered) (by decide);obtain⟨tH,dH,hH⟩:=(ct2.same f4).get (k:=.handed) (by decide);refine⟨_,rfl,_,rfl,p,_,rfl,dB,tB,_,_,_,rfl,rfl,SqT.of hB,rfl,_,rfl,_,rfl,p,_,rfl,dH,tH,_,_,_,rfl,rfl,SqT.of hH,aq,rfl,_,rfl,?_⟩;have hch:Dd.collect.chk (yp0 s R n) S=none:=if_pos up;rw[Dd.out_none hch]at fin;have hv:(ctV S es .answered).2=((th .answered es).length:Int) - (nC .answered (S.rs true):Nat):=rfl;have hv2:(ctV S es .handed).1=((th .handed es).length:Int):=rfl;by_cases hz:az ⟨s,R,false⟩ S.m (S.rs false) .answered .handed=0
    . refine ic (decide_eq_true (by rw[hv,hv2,C.nb.mp hz])) ?_;have e1':Dd.collect.run (yp0 s R n) S=(.none,S):=if_pos hz;rw[e1']at fin;exact⟨l2,λr hr2=>fin _ r .non f4 hr2 rfl⟩
    . refine cf (λz=>hz (C.nb.mpr (by rw[<-hv,<-hv2];exact fh (of_decide_eq_true z)))) ?_;obtain⟨nw,h1,e1',_⟩:=Q3.q.collect hz;have hlt:=(List.getElem?_eq_some_iff.mp h1).1;rw[e1']at fin;have E3:=E2.trans f4;refine⟨_,rfl,_,rfl,st,zs,es,.answered,rfl,E3 _ _ hst,dN pr E3,hl,λq ys H4 e4 _ hq py=>?_⟩;obtain⟨z,hz',tt,rfl,htt⟩:=Paired.at' py h1;obtain⟨tH,dH,hH⟩:=(ct2.same (f4.trans e4)).get (k:=.handed) (by decide);refine⟨_,rfl,_,rfl,p,_,rfl,dH,tH,_,_,_,rfl,rfl,SqT.of hH,aq,q,_,_,_,rfl,rfl,SqL.of hq,by rw[hv2];exact lY hz',l2,λr hr2=>fin _ r _ (f4.trans e4) hr2 ?_⟩;exact DV2 ((ag hr2) _ _ htt)
theorem uD {fs:List Ev}(h:([]:List PyData)=fs.map evD):fs=[]:=by
 cases fs with
|nil=>rfl
|cons e r=>cases h
theorem C7 {fs:List Ev}{wd:Str}{d1 d2:PyData}(h:[l6 wd d1 d2]=fs.map evD):∃ (k:Cn) (i j:Int),fs=[(k,i,j)]/\wd=k.key/\d1=.int i/\d2=.int j:=by
 cases fs with
|nil=>cases h
|cons e r =>
  rw[map_cons]at h;injection h with h1 h2
  rw[uD h2];obtain⟨k,i,j⟩:=e;unfold evD l6 at h1;injection h1 with h1
  injection h1 with a1 h1
  injection h1 with a2 h1
  injection h1 with a3 h1
  injection a1 with a1
  exact⟨k,i,j,rfl,a1,a2,a3⟩
def CN:Sp:=λvs H Q _=>∃ (t r:Addr) (x:Dd) (key:Str) (d:PyData) (v:V) (fs:List Ev),vs=[.ref t,.ref r]/\H t=some (.tup x.vs)/\H r=some (.tup [.str key,v])/\DV H d v/\wks x/\(x.ftc->Fch d)/\x.hap key d=fs.map evD /\
 ∀ (l:Addr) (ys:List V) (H':Hp),bG H H'->H l=none->H' l=some (.lst ys)->Paired (EvR H') fs ys->Q (.ref l) H'
theorem De (G:Gs K mg a d):FnOk P w K mg base CX0 1 a.cK d.cK ["deed","told"] CN:=by
 refine G.jy.ok nu (λvs H Q E h=>?_) (λcdv A' outer s' H vs Q E hr h=>?_)
 . obtain⟨t,r,x,key,dd,v,fs,rfl,_⟩:=h;rfl
 . obtain⟨t,r,x,key,dd,v,fs,rfl,ht,hr1,dv,wk,fc,hf,k⟩:=h;have hu:=eZ hr;refine⟨_,((@aL _ _ _ _ _ _ _ _ ((uH (ao rQ (@ax _ _ _ _ _ _ _ ar (pv 1) ac (λ_ _=>rfl)) ai (av _)) (qe ((m6 (ao sV (@ax _ _ _ _ _ _ _ ar (pv 1) ac (λ_ _=>rfl)) cq (av _)) (lE (ao rQ (@ax _ _ _ _ _ _ _ ar (pv 0) ac (λ_ _=>rfl)) ai (av _))))).pt))).pt ((@bV _ _ _ _ a9)⁻¹) aj)∪((@aL _ _ _ _ _ _ _ _ (ao cm (@ax _ _ _ _ _ _ _ ar (pv 0) ac (λ_ _=>rfl)) ai (av _)) ((@bV _ _ _ _ ((@aO _ _ _ _ _ (ai∣((@ax _ _ _ _ _ _ _ ar (pv 1) ac (λ_ _=>rfl))∣((@ax _ _ _ _ _ _ _ ar (pv 0) ac (λ_ _=>rfl))∣a9))))∣a9))⁻¹) aj)∪((@aL _ _ _ _ _ _ _ _ (ao cm (@ax _ _ _ _ _ _ _ ar (pv 0) ac (λ_ _=>rfl)) ai (av _)) ((@bV _ _ _ _ ((@aO _ _ _ _ _ (ai∣((@ax _ _ _ _ _ _ _ ar (pv 0) ac (λ_ _=>rfl))∣((@ax _ _ _ _ _ _ _ ar (pv 0) ac (λ_ _=>rfl))∣a9))))∣a9))⁻¹) aj)∪((@bV _ _ _ _ ((@aN _ _ _ _ _ _ _ _ CP (@aO _ _ _ _ _ ((@ax _ _ _ _ _ _ _ bo (@bV _ _ _ _ (ai∣(ai∣a9))) (br km (by rfl) G.uW nB ((ci cm (@ax _ _ _ _ _ _ _ ar (pv 0) ac (λ_ _=>rfl)) ai (av _))∣a9)) (λ_ _=>rfl))∣a9)) (@ax _ _ _ _ _ _ _ ar (pv 1) ac (λ_ _=>rfl)))∣a9))⁻¹)))),?_⟩;have nil:x.hap key dd=[]->[].length <= sizeLine/\∀ l,H l=none->Q (.ref l) (upd H l (.lst [])):=λe=>⟨rE,λl hl=>k l [] _ (ag hl) hl a6 (by rw[uD (e.symm.trans hf)];exact .nil)⟩
   have one:∀ (H2:Hp) (wd:Str) (i j:Int),bG H H2->x.hap key dd=[l6 wd (.int i) (.int j)]->∀ t2,H2 t2=none->[V.ref t2].length <= sizeLine/\∀ l,upd H2 t2 (.tup [.str wd,.int i,.int j]) l=none->Q (.ref l) (upd (upd H2 t2 (.tup [.str wd,.int i,.int j])) l (.lst [.ref t2])):=λH2 wd i j e2 e t2 ht2=>⟨by show 1 <= sizeLine;decide,λl hl=>by
    obtain⟨kk,i',j',rfl,rfl,a2,a3⟩:=C7 (e.symm.trans hf);injection a2 with a2
    injection a3 with a3
    subst a2 a3;have e3:=ag (o:=.tup [.str kk.key,.int i,.int j]) ht2;have v3:upd H2 t2 (.tup [.str kk.key,.int i,.int j]) t2=some (.tup [.str kk.key,.int i,.int j]):=a6;generalize upd H2 t2 (.tup [.str kk.key,.int i,.int j])=H3 at e3 v3 hl |-;have e4:=ag (o:=.lst [V.ref t2]) hl;exact k l [.ref t2] _ (e2.trans (e3.trans e4)) (b9 (e2.trans e3) hl) a6 (.cons ⟨t2,rfl,e4 _ _ v3⟩ .nil)⟩
   have hap1:key="none"->∀ wd d1 d2,x.hap key dd=[l6 wd d1 d2]->∃ i j:Int,d1=.int i/\d2=.int j:=λ_ wd d1 d2 e=>by
    obtain⟨_,i,j,_,_,a2,a3⟩:=C7 (e.symm.trans hf);exact⟨i,j,a2,a3⟩
   refine⟨_,rfl,r,_,_,_,rfl,rfl,SqT.of hr1,aq,rfl,_,rfl,?_⟩;by_cases hk:key="none";rotate_left
   . refine ic (by rw[not_eq_true',decide_eq_false_iff_not];exact sne hk) (fX ?_);exact nil (by unfold Dd.hap;rw[if_neg hk])
   subst hk;refine cf (by rw[decide_eq_true rfl];exact λz=>by cases z) ?_;refine⟨_,rfl,r,_,_,_,rfl,rfl,SqT.of hr1,rfl,rfl,_,rfl,?_⟩;cases x with
  |bell b=>exact wk.elim
  |lie b=>exact wk.elim
  |look b=>exact wk.elim
  |drain b=>exact wk.elim
  |ask wt =>
    obtain⟨i,j,hd,_⟩:=hap1 rfl "asked" dd (.int wt) (if_pos rfl);subst hd;cases dv;refine cU (cU ?_);refine⟨_,rfl,t,_,_,_,rfl,rfl,SqT.of ht,aq,rfl,_,rfl,?_⟩;refine ic (decide_eq_true rfl) ?_;refine⟨_,rfl,r,_,_,_,rfl,rfl,SqT.of hr1,rfl,_,rfl,t,_,_,_,rfl,rfl,SqT.of ht,rfl,l3,λt2 ht2=>?_⟩;exact one H "asked" i wt (λ_ _ e=>e) (if_pos rfl) t2 ht2
  |answer nm wt =>
    refine wI (λ_=>?_) (λ_=>cU ?_)
    . refine⟨_,rfl,t,_,_,_,rfl,rfl,SqT.of ht,aq,rfl,_,rfl,?_⟩;refine cf (by rw[decide_eq_true rfl];exact λz=>by cases z) ?_;refine⟨_,rfl,t,_,_,_,rfl,rfl,SqT.of ht,aq,rfl,_,rfl,?_⟩;refine cf (by rw[decide_eq_true_eq];exact sne (show ¬ (("answer":Str)="ask") by decide +kernel)) ?_;refine⟨_,rfl,t,_,_,_,rfl,rfl,SqT.of ht,aq,rfl,_,rfl,?_⟩;refine ic (decide_eq_true rfl) ?_;refine⟨_,rfl,t,_,_,_,rfl,rfl,SqT.of ht,rfl,_,rfl,t,_,_,_,rfl,rfl,SqT.of ht,rfl,l3,λt2 ht2=>?_⟩;exact one H "answered" nm wt (λ_ _ e=>e) (if_pos rfl) t2 ht2
    . refine⟨_,rfl,t,_,_,_,rfl,rfl,SqT.of ht,aq,rfl,_,rfl,?_⟩;refine cf (by rw[decide_eq_true_eq];exact sne (show ¬ (("answer":Str)="ask") by decide +kernel)) ?_;refine⟨_,rfl,t,_,_,_,rfl,rfl,SqT.of ht,aq,rfl,_,rfl,?_⟩;refine ic (decide_eq_true rfl) ?_;refine⟨_,rfl,t,_,_,_,rfl,rfl,SqT.of ht,rfl,_,rfl,t,_,_,_,rfl,rfl,SqT.of ht,rfl,l3,λt2 ht2=>?_⟩;exact one H "answered" nm wt (λ_ _ e=>e) (if_pos rfl) t2 ht2
  |take =>
    rcases(fc trivial).dv dv with⟨rfl,rfl⟩|⟨c,u1,u2,rfl,hc,hd⟩
    . refine fX ?_;refine⟨_,rfl,t,_,_,_,rfl,rfl,SqT.of ht,aq,rfl,_,rfl,?_⟩;refine ic (by rw[not_eq_true',decide_eq_false_iff_not];exact sne (show ¬ (("take":Str)="answer") by decide +kernel)) ?_;exact nil (if_pos rfl)
    . refine cU (cU ?_);refine⟨_,rfl,t,_,_,_,rfl,rfl,SqT.of ht,aq,rfl,_,rfl,?_⟩;refine cf (by rw[decide_eq_true_eq];exact sne (show ¬ (("take":Str)="ask") by decide +kernel)) ?_;refine⟨_,rfl,t,_,_,_,rfl,rfl,SqT.of ht,aq,rfl,_,rfl,?_⟩;refine cf (by rw[decide_eq_true_eq];exact sne (show ¬ (("take":Str)="answer") by decide +kernel)) ?_;have hd2:∃ i j:Int,dd=.tuple [.int i,.int j]/\u1=.int i/\u2=.int j:=by
       rcases hd with⟨rfl,_⟩|h
       . obtain⟨i,j,z,_⟩:=hap1 rfl "taken" .none .none (if_pos rfl);cases z
       . exact h
      obtain⟨i,j,rfl,rfl,rfl⟩:=hd2;refine⟨l2,λq hq=>?_⟩;have e1:=ag (o:=.lst [V.str "taken",V.str "handed"]) hq;have v1:upd H q (.lst [V.str "taken",V.str "handed"]) q=some (.lst [V.str "taken",V.str "handed"]):=a6;generalize upd H q (.lst [V.str "taken",V.str "handed"])=H1 at e1 v1 |-;refine⟨_,rfl,t,_,_,_,rfl,rfl,SqT.of (e1 _ _ ht),aq,rfl,.inr ⟨_,rfl,?_⟩⟩;rw[decide_eq_false (sne (show ¬ (("take":Str)="collect") by decide +kernel))];refine⟨q,_,_,_,rfl,rfl,SqL.of v1,rfl,by show 1 <= sizeLine;decide,λt1 nt1=>?_⟩;have e2:=e1.trans (ag (o:=.tup [V.str "taken"]) nt1);refine⟨_,rfl,r,_,_,_,rfl,rfl,SqT.of (e2 _ _ hr1),rfl,t1,c,_,_,rfl,rfl,SqT.of a6,SqT.of (e2 _ _ hc),(λz=>by cases z),(by show 3 <= sizeLine;decide),(λz=>by cases z),λ_ t2 ht2=>?_⟩;exact one _ "taken" i j e2 (if_pos rfl) t2 ht2
  |collect =>
    rcases(fc trivial).dv dv with⟨rfl,rfl⟩|⟨c,u1,u2,rfl,hc,hd⟩
    . refine fX ?_;refine⟨_,rfl,t,_,_,_,rfl,rfl,SqT.of ht,aq,rfl,_,rfl,?_⟩;refine ic (by rw[not_eq_true',decide_eq_false_iff_not];exact sne (show ¬ (("collect":Str)="answer") by decide +kernel)) ?_;exact nil (if_pos rfl)
    . refine cU (cU ?_);refine⟨_,rfl,t,_,_,_,rfl,rfl,SqT.of ht,aq,rfl,_,rfl,?_⟩;refine cf (by rw[decide_eq_true_eq];exact sne (show ¬ (("collect":Str)="ask") by decide +kernel)) ?_;refine⟨_,rfl,t,_,_,_,rfl,rfl,SqT.of ht,aq,rfl,_,rfl,?_⟩;refine cf (by rw[decide_eq_true_eq];exact sne (show ¬ (("collect":Str)="answer") by decide +kernel)) ?_;have hd2:∃ i j:Int,dd=.tuple [.int i,.int j]/\u1=.int i/\u2=.int j:=by
       rcases hd with⟨rfl,_⟩|h
       . obtain⟨i,j,z,_⟩:=hap1 rfl "handed" .none .none (if_pos rfl);cases z
       . exact h
      obtain⟨i,j,rfl,rfl,rfl⟩:=hd2;refine⟨l2,λq hq=>?_⟩;have e1:=ag (o:=.lst [V.str "taken",V.str "handed"]) hq;have v1:upd H q (.lst [V.str "taken",V.str "handed"]) q=some (.lst [V.str "taken",V.str "handed"]):=a6;generalize upd H q (.lst [V.str "taken",V.str "handed"])=H1 at e1 v1 |-;refine⟨_,rfl,t,_,_,_,rfl,rfl,SqT.of (e1 _ _ ht),aq,rfl,.inr ⟨_,rfl,?_⟩⟩;rw[decide_eq_true (show V.str "collect"=V.str "collect" from rfl)];refine⟨q,_,_,_,rfl,rfl,SqL.of v1,rfl,by show 1 <= sizeLine;decide,λt1 nt1=>?_⟩;have e2:=e1.trans (ag (o:=.tup [V.str "handed"]) nt1);refine⟨_,rfl,r,_,_,_,rfl,rfl,SqT.of (e2 _ _ hr1),rfl,t1,c,_,_,rfl,rfl,SqT.of a6,SqT.of (e2 _ _ hc),(λz=>by cases z),(by show 3 <= sizeLine;decide),(λz=>by cases z),λ_ t2 ht2=>?_⟩;exact one _ "handed" i j e2 (if_pos rfl) t2 ht2
def we (K:PySem.W.Frag):Sp:=λvs H Q _=>∃ (b:Addr) (ns:List Int),vs=[.ref b]/\SqL K H b (ns.map V.int)/\ns.length <= 63/\∀ H',Q (.bl true) H'
theorem FQ {s R:Int}{n:Nat}{fs:List Str}(m:MkOk s R n fs):(yp0 s R n).Ok:=by
 refine⟨⟨by have:=m.s1;show 0 < s;omega,m.s8,?_⟩,by have:=m.n9;show n <= 9;omega⟩;show 0 < s * R;have:=m.s1;have:=m.R2;exact Int.mul_pos (by omega) (by omega)
structure W30 (w:World) (ad:Ad) (H:Hp) (a:YA) (s R:Int) (n:Nat) (S:YS) (es:List Ev) (L:Nat) (tk st:Addr) (ts:List Int) (zs:List V):Prop where
 y:Yn w ad.bx ad.dQ ad.bu ad.cr ad.aJ H a (yp0 s R n) S
 iy:YI (yp0 s R n) S L
 q:Q31 s R n S es
 ht:H tk=some (.lst (ts.map V.int))
 tl:ts.length <= L
 hs:H st=some (.lst zs)
 pr:Paired (EvR H) es zs
 el:es.length <= L
 n1:¬ a.own tk
 n2:¬ a.own st
 n3:st≠tk
def HN (a:YA) (tk c:Addr):Prop:=a.own c\/c=tk
section
variable {w:World}{ad:Ad}{H H':Hp}{a:YA}{s R:Int}{n:Nat}{S S':YS}{es fs:List Ev}{L L':Nat}{tk st:Addr}{ts ts':List Int}{zs:List V}
theorem W30.fresh (W:W30 w ad H a s R n S es L tk st ts zs) {c:Addr}(h:H c=none):¬ HN a tk c:=λhc=>by
 rcases hc with z|z
 . exact W.y.fresh h z
 . rw[z,W.ht]at h;cases h
theorem W30.same (W:W30 w ad H a s R n S es L tk st ts zs) (e:bG H H'):W30 w ad H' a s R n S es L tk st ts zs :=
 ⟨W.y.same e,W.iy,W.q,e _ _ W.ht,W.tl,e _ _ W.hs,dN W.pr e,W.el,W.n1,W.n2,W.n3⟩
theorem W30.stepT (W:W30 w ad H a s R n S es L tk st ts zs) (k:Kp [tk] H H') (h:H' tk=some (.lst (ts'.map V.int))) (tl:ts'.length <= L):W30 w ad H' a s R n S es L tk st ts' zs:=by
 have nt:∀ c,c∈[tk]->∀ vs,H c≠some (.tup vs):=λc hc vs e=>by rw[mem_singleton.mp hc,W.ht]at e;cases e
 have ko:KO (·∈[tk]) H H':=λc o n e=>k c o n e
 exact⟨W.y.ko ko (λc h1=>by rw[mem_singleton.mp h1];exact W.n1) nt,W.iy,W.q,h,tl,ko _ _ (λz=>W.n3 (mem_singleton.mp z)) W.hs,Paired.mapP W.pr λ_ _ q=>q.keep (uU ko nt),W.el,W.n1,W.n2,W.n3⟩
end
def tkb:Dd->Bool
|.take=>true
|.answer _ _=>true
|_=>false
def wkb:Dd->Bool
|.ask _=>true
|.collect=>true
|.take=>true
|.answer _ _=>true
|_=>false
theorem BE (x:Dd):inV (.str x.word) [V.str "ask",V.str "collect",V.str "take",V.str "answer"]=wkb x:=by
 cases x with
|ask wt=>exact(show inV (.str "ask") [V.str "ask",V.str "collect",V.str "take",V.str "answer"]=true by decide +kernel)
|collect=>exact(show inV (.str "collect") [V.str "ask",V.str "collect",V.str "take",V.str "answer"]=true by decide +kernel)
|take=>exact(show inV (.str "take") [V.str "ask",V.str "collect",V.str "take",V.str "answer"]=true by decide +kernel)
|answer nm wt=>exact(show inV (.str "answer") [V.str "ask",V.str "collect",V.str "take",V.str "answer"]=true by decide +kernel)
|bell b=>exact(show inV (.str "bell") [V.str "ask",V.str "collect",V.str "take",V.str "answer"]=false by decide +kernel)
|lie b=>exact(show inV (.str "lie") [V.str "ask",V.str "collect",V.str "take",V.str "answer"]=false by decide +kernel)
|look b=>exact(show inV (.str "look") [V.str "ask",V.str "collect",V.str "take",V.str "answer"]=false by decide +kernel)
|drain b=>exact(show inV (.str "drain") [V.str "ask",V.str "collect",V.str "take",V.str "answer"]=false by decide +kernel)
theorem AX (x:Dd):inV (.str x.word) [V.str "take",V.str "answer"]=tkb x:=by
 cases x with
|ask wt=>exact(show inV (.str "ask") [V.str "take",V.str "answer"]=false by decide +kernel)
|collect=>exact(show inV (.str "collect") [V.str "take",V.str "answer"]=false by decide +kernel)
|take=>exact(show inV (.str "take") [V.str "take",V.str "answer"]=true by decide +kernel)
|answer nm wt=>exact(show inV (.str "answer") [V.str "take",V.str "answer"]=true by decide +kernel)
|bell b=>exact(show inV (.str "bell") [V.str "take",V.str "answer"]=false by decide +kernel)
|lie b=>exact(show inV (.str "lie") [V.str "take",V.str "answer"]=false by decide +kernel)
|look b=>exact(show inV (.str "look") [V.str "take",V.str "answer"]=false by decide +kernel)
|drain b=>exact(show inV (.str "drain") [V.str "take",V.str "answer"]=false by decide +kernel)
theorem yq {x:Dd}(h:wkb x=true):wks x/\x.side=tkb x:=by cases x<;>first|exact⟨trivial,rfl⟩|cases h
theorem Dj {x:Dd}(h:wkb x=false) (key:Str) (d:PyData):x.hap key d=[]:=by
 unfold Dd.hap;split
 . cases x<;>first|rfl|cases h
 . rfl
theorem Cz {q:YP}{S:YS}{x:Dd}(h:wkb x=true) (hb:S.bd x.side≠.up):x.out q S=(Rf.deed.key,.none,S):=by
 refine Dd.out_some ?_;cases x<;>first|exact if_neg hb|cases h
theorem xM {H:Hp}:∀ {es:List Ev}{zs:List V},Paired (EvR H) es zs->DVs H (es.map evD) zs
|_,_,.nil=>rfl
|_,_,.cons ⟨t,e,h⟩ r=>⟨_,_,rfl,by rw[e];exact⟨t,_,rfl,h,_,_,rfl,rfl,_,_,rfl,rfl,_,_,rfl,rfl,rfl⟩,xM r⟩
theorem Gf (es:List Ev):FlL (es.map evD):=λd hd=>by
 obtain⟨⟨k,i,j⟩,_,rfl⟩:=mem_map.mp hd;refine⟨?_,by show 1 <= 9;decide⟩;have h:PyData.strOk k.key=true:=by cases k<;>decide +kernel
 show (PyData.strOk k.key && _)=true;rw[h];rfl
theorem lJ {H:Hp}:∀ (us:List Int),DVs H (us.map PyData.int) (us.map V.int)
|[]=>rfl
|u :: us=>⟨_,_,rfl,rfl,lJ us⟩
theorem Fm (G:Gs K mg a d):FnOk P w K mg base CX0 17 a.law d.law ["script"] (we K):=by
 have c_law_cell_at:FnOk P w K mg base CX0 1 _ _ _ _:=zE G;have c_law_make:FnOk P w K mg base CX0 1 _ _ _ _:=Dl G;have c_law_codes:FnOk P w K mg base CX0 1 _ _ _ _:=Bo G;have c_law_deed:FnOk P w K mg base CX0 2 _ _ _ _:=AZ G;have c_law_tried:FnOk P w K mg base CX0 11 _ _ _ _:=yG G;have c_law_after:FnOk P w K mg base CX0 1 _ _ _ _:=A4 G;have c_law_happened:FnOk P w K mg base CX0 1 _ _ _ _:=De G;have c_law_due:FnOk P w K mg base CX0 4 _ _ _ _:=DW G;have c_law_names:FnOk P w K mg base CX0 2 _ _ _ _:=tS G;have c_law_stands:FnOk P w K mg base CX0 4 _ _ _ _:=xj G;have c_law_same:FnOk P w K mg base CX0 11 _ _ _ _:=y3 G 11;have c_Yard__init:FnOk P w K mg base CX0 6 _ _ _ _:=Aj G;have c_Yard_state:FnOk P w K mg base CX0 4 _ _ _ _:=By G;have c_Yard_story:FnOk P w K mg base CX0 1 _ _ _ _:=BG G;have c_Yard_sleeper:FnOk P w K mg base CX0 1 _ _ _ _:=xb G;refine G.FP.ok dS (λvs H Q E h=>?_) (λcdv A' outer s' H vs Q E hr h=>?_)
 . obtain⟨l,ns,rfl,_⟩:=h;rfl
 . obtain⟨l,ns,rfl,hS,hlen,k⟩:=h;have hu:=eZ hr;refine⟨_,((@iI _ _ _ _ _ _ (aS c_law_make (hr.mono (by decide)) (by rfl) G.wQ G.qa.kp G.wS .nil ay ((aS c_law_cell_at (hr.mono (by decide)) (by rfl) G.rB G.kG.kp G.rp .nil ay ((pv 0)∣(ac∣a9)))∣a9)) (@jw _ _ _ _ _ _ rfl (@b8 _ _ _ _ _ (aR (i:=1) dS.nd rfl (Or.inl rfl)) (@b8 _ _ _ _ _ (aR (i:=2) dS.nd rfl (Or.inl rfl)) (@b8 _ _ _ _ _ (aR (i:=3) dS.nd rfl (Or.inl rfl)) (@b8 _ _ _ _ _ (aR (i:=4) dS.nd rfl (Or.inl rfl)) gn (by rfl)) (by rfl)) (by rfl)) (by rfl)) (by rfl) (by rfl)) (by rfl) (by rfl) (by rfl))∪((@aK _ _ 5 _ _ _ _ dS.nd rfl (Or.inl rfl) (jS G.Fl c_Yard__init (hr.mono (by decide)) (by rfl) G.EG G.tL .nil ay ((pv 1)∣((pv 2)∣((pv 3)∣((@aO _ _ _ _ _ a9)∣a9))))) (by rfl) (by exact .inl rfl))∪((@aK _ _ 6 _ _ _ _ dS.nd rfl (Or.inl rfl) (@bV _ _ _ _ a9) (by rfl) (by exact .inl rfl))∪((@aK _ _ 7 _ _ _ _ dS.nd rfl (Or.inl rfl) (@bV _ _ _ _ a9) (by rfl) (by exact .inl rfl))∪((@iJ _ _ _ _ _ _ _ _ PassesOwn.never rfl (@eV _ _ _ _ (aS c_law_codes (hr.mono (by decide)) (by rfl) G.uN G.ou.kp G.uv .nil ay ((mK yk (pv 0) (nk ac) uI)∣(ac∣a9)))) (aR (i:=8) dS.nd rfl (Or.inl rfl)) ((@aK _ _ 9 _ _ _ _ dS.nd rfl (Or.inl rfl) (aS c_law_deed (hr.mono (by decide)) (by rfl) G.wP G.pS.kp G.x9 .nil ay ((pv 8)∣((pv 6)∣a9))) (by rfl) (by exact .inl rfl))∪((@aK _ _ 10 _ _ _ _ dS.nd rfl (Or.inl rfl) (ci eR (@ax _ _ _ _ _ _ _ ar (pv 9) ac (λ_ _=>rfl)) (@aO _ _ _ _ _ (ai∣(ai∣(ai∣(ai∣a9))))) (by with_unfolding_all rfl)) (by rfl) (by exact .inl rfl))∪((@aK _ _ 11 _ _ _ _ dS.nd rfl (Or.inl rfl) (ci cm (aB (pv 5) G.am G.o5 c_Yard_sleeper (hr.mono (by decide)) G.oJ .nil ay ((br km (by rfl) G.uW nB ((ci eR (@ax _ _ _ _ _ _ _ ar (pv 9) ac (λ_ _=>rfl)) (@aO _ _ _ _ _ (ai∣(ai∣a9))) (by with_unfolding_all rfl))∣a9))∣a9)) ai (av _)) (by rfl) (by exact .inl rfl))∪((@aK _ _ 12 _ _ _ _ dS.nd rfl (Or.inl rfl) (@aO _ _ _ _ _ (ai∣(cq∣a9))) (by rfl) (by exact .inl rfl))∪(@gA _ _ _ _ _ (@aL _ _ _ _ _ _ _ _ (C6 ((m6 (bT (pv 10)) (lE (bT (pv 11))))).pt) (@ap _ _ _ (@aK _ _ 12 _ _ _ _ dS.nd rfl (Or.inl rfl) (aS c_law_due (hr.mono (by decide)) (by rfl) G.yy G.sY.kp G.yJ .nil ay ((pv 5)∣((pv 7)∣((pv 9)∣((pv 1)∣((pv 3)∣a9)))))) (by rfl) (by exact .inl rfl))) aj)
    ((@aK _ _ 13 _ _ _ _ dS.nd rfl (Or.inl rfl) (aS c_law_tried (hr.mono (by decide)) (by rfl) G.ut G.n5.kp G.ug .nil ay ((pv 5)∣((pv 9)∣a9))) (by rfl) (by exact .inl rfl))∪((@aL _ _ _ _ _ _ _ _ (C6 ((m6 (bT (pv 10)) (lE (fT (bT (aS c_law_same (hr.mono (by decide)) (by rfl) G.jh G.gN.kp G.jo .nil ay ((pv 13)∣((pv 12)∣a9)))))))).pt) (eg⁻¹) aj)∪(@gA _ _ _ _ _ (@aL _ _ _ _ _ _ _ _ (bT (pv 10)) (@ap _ _ _ (@aK _ _ 7 _ _ _ _ dS.nd rfl (Or.inl rfl) (@aN _ _ _ _ _ _ _ _ EJ (pv 7) (aS c_law_happened (hr.mono (by decide)) (by rfl) G.oX G.jy.kp G.oI .nil ay ((pv 9)∣((pv 13)∣a9)))) (by rfl) (by exact .inl rfl))) aj)
    ((@b6 _ _ _ _ (aS c_law_after (hr.mono (by decide)) (by rfl) G.uO G.oa.kp G.uE .nil ay ((pv 6)∣((pv 9)∣((pv 13)∣a9)))) (by rfl))∪((@iI _ _ _ _ _ _ (aS c_law_names (hr.mono (by decide)) (by rfl) G.nV G.jI.kp G.o7 .nil ay ((pv 7)∣a9)) (@jw _ _ _ _ _ _ rfl (@b8 _ _ _ _ _ (aR (i:=14) dS.nd rfl (Or.inl rfl)) (@b8 _ _ _ _ _ (aR (i:=15) dS.nd rfl (Or.inl rfl)) gn (by rfl)) (by rfl)) (by rfl) (by rfl)) (by rfl) (by rfl) (by rfl))∪((@aL _ _ _ _ _ _ _ _ (fT (bT (aS c_law_stands (hr.mono (by decide)) (by rfl) G.sJ G.mo.kp G.sh .nil ay ((pv 5)∣((pv 7)∣((pv 1)∣((pv 2)∣a9))))))) (eg⁻¹) aj)∪(@ap _ _ _ (@aL _ _ _ _ _ _ _ _ (fT (bT (aS c_law_same (hr.mono (by decide)) (by rfl) G.jh G.gN.kp G.jo .nil ay ((mK C8 (bf (pv 5) G.am G.qv c_Yard_state (hr.mono (by decide)) G.tQ .nil ay) (nk ac) (nk ac))∣((@aO _ _ _ _ _ ((br bz (by rfl) G.dP cn ((pv 14)∣a9))∣((br bz (by rfl) G.dP cn ((pv 15)∣a9))∣a9)))∣a9))))) (eg⁻¹) aj))))))))))))) (by intro _;rfl))∪((aS c_law_same (hr.mono (by decide)) (by rfl) G.jh G.gN.kp G.jo .nil ay ((bf (pv 5) G.am G.rP c_Yard_story (hr.mono (by decide)) G.sx .nil ay)∣((pv 7)∣a9)))⁻¹)))))),?_⟩
   refine⟨_,rfl,l,ns,0,rfl,hS,_,rfl,λt0 ft s R n0 fs H1 mk e1 _ ht0 hft=>?_⟩;obtain⟨n,rfl⟩:=Int.eq_ofNat_of_zero_le (show 0 <= n0 by have:=mk.n1;omega);have qok:=FQ mk;refine⟨t0,_,rfl,SqT.of ht0,rfl,_,_,rfl,_,_,rfl,_,_,rfl,_,_,rfl,rfl,?_⟩;refine⟨_,rfl,_,rfl,_,rfl,rE,λf0 hf0=>?_⟩;have e3:=ag (o:=.tup []) hf0;have w3:upd H1 f0 (.tup []) f0=some (.tup []):=a6;generalize upd H1 f0 (.tup [])=H2 at e3 w3 |-;intro y dy ny ndy nedy;refine⟨y,dy,f0,s,R,n,[],rfl,a6,by rw[aa (ae w3 ny),aa (ae w3 ndy)];exact w3,λa1 H3 ha fa Y3 kp3=>⟨rfl,?_⟩⟩;have e4:=e3.trans (mI ny ndy kp3);have S3:=(e1.trans e4).seq hS;subst ha;have hyp:Hb s R n []=yp0 s R n:=rfl;rw[hyp]at Y3;clear e1 e3 w3 e4 kp3 fa ny ndy hf0 hft ht0 hyp;refine⟨rE,λtk htk=>⟨rE,λst hst=>?_⟩⟩;have f1:=ag (o:=.lst []) htk;have f2:=ag (o:=.lst []) hst;have f12:=f1.trans f2;have W:W30 w a (upd (upd H3 tk (.lst [])) st (.lst [])) a1 s R n YS.zero [] 0 tk st [] [] :=
    ⟨Y3.same f12,YI.zero _,Q31.zero (by have:=mk.s1;omega) mk.s8 mk.R2 (by have:=mk.n9;omega),f2 _ _ a6,Nat.le_refl _,a6,.nil,Nat.le_refl _,Y3.fresh htk,(Y3.same f1).fresh hst,λz=>by rw[z,a6]at hst;cases hst⟩
   have S4:=f12.seq S3;generalize upd (upd H3 tk (.lst [])) st (.lst [])=H4 at W S4 |-;clear f1 f2 f12 htk hst Y3 S3;refine⟨_,rfl,_,rfl,l,_,rfl,S4,λp1 hp1=>?_⟩;have e5:=ag (o:=.lst (tf (ns.map V.int) (some 1) none)) hp1;have v5:upd H4 p1 (.lst (tf (ns.map V.int) (some 1) none)) p1=some (.lst ((ns.drop 1).map V.int)):=by rw[a6,show (some (1:Int))=some ((1:Nat):Int) from rfl,qc,List.map_drop]
   generalize upd H4 p1 (.lst (tf (ns.map V.int) (some 1) none))=H5 at e5 v5 |-;refine⟨p1,ns.drop 1,60,rfl,v5,by rw[length_drop];omega,λp cs H6 e6 np hcs cl cok=>⟨p,rfl,⟨_,SqL.of hcs⟩,?_⟩⟩;have nbp:=(W.same e5).fresh np;have W6:=(W.same e5).same e6;clear W e5 e6 v5 hp1 S4 np;refine gf (K:=K) (a:=p) (xs:=cs.map V.int) (λi σ H7=>∃ (S:YS) (es:List Ev) (st:Addr) (ts:List Int) (zs:List V),(∃ v8 v9 v10 v11 v12 v13 v14 v15,σ=[some (.ref l),some (.int s),some (.int R),some (.int n),some (.ref ft),some (.ref a1.y),some (.ref tk),some (.ref st),v8,v9,v10,v11,v12,v13,v14,v15])/\W30 w a H7 a1 s R n S es (2 * i) tk st ts zs/\H7 p=some (.lst (cs.map V.int)))
    ⟨_,_,_,_,_,⟨_,_,_,_,_,_,_,_,rfl⟩,W6,hcs⟩ (λ_ _ _ _ ⟨_,_,_,_,_,_,_,z⟩=>SqL.of z) ?_ ?_
   . clear W6 hcs H6 st;rintro i x σ H7 hi ⟨S,es,st,ts,zs,⟨v8,v9,v10,v11,v12,v13,v14,v15,rfl⟩,W,hcs⟩;obtain⟨c,hc,rfl⟩:∃ c,c∈cs/\x=.int c:=by
      rw[getElem?_map]at hi;cases e:cs[i]? with
     |none=>rw[e]at hi;cases hi
     |some c=>rw[e]at hi;cases hi;exact⟨c,mem_of_getElem? e,rfl⟩
     have hi60:i < 60:=by have:=(List.getElem?_eq_some_iff.mp hi).1;rw[length_map]at this;omega
     obtain⟨c0,c1⟩:=cok c hc;clear hi hc;refine⟨_,rfl,_,rfl,c,tk,ts,rfl,c0,c1,W.ht,λx t H8 xo nt ht8 e8=>?_⟩;have W8:=W.same e8;have hcs:=e8 _ _ hcs;clear W e8 nt;refine⟨_,rfl,t,_,_,_,rfl,rfl,SqT.of ht8,x.at0,by show 4 <= sizeLine;decide,λq1 nq1=>⟨q1,_,rfl,.inr (SqT.of a6),rfl,rfl,?_⟩⟩;simp only[false_eq_true,if_false];rw[BE];have e9:=ag (o:=.tup [V.str "ask",V.str "collect",V.str "take",V.str "answer"]) nq1;generalize upd H8 q1 (.tup [V.str "ask",V.str "collect",V.str "take",V.str "answer"])=H9 at e9 |-;have W9:=W8.same e9;have hcs:=e9 _ _ hcs;have ht9:=e9 _ _ ht8;clear W8 ht8 e9 nq1;refine⟨_,rfl,gO W9.y.ob (jM (by decide +kernel)) ⟨_,rfl,t,_,_,_,rfl,rfl,SqT.of ht9,x.at0,l2,λq2 nq2=>⟨q2,_,rfl,.inr (SqT.of a6),rfl,rfl,.inr ⟨_,rfl,?_⟩⟩⟩⟩;simp only[false_eq_true,if_false];rw[AX];have e10:=ag (o:=.tup [V.str "take",V.str "answer"]) nq2;generalize upd H9 q2 (.tup [V.str "take",V.str "answer"])=H10 at e10 |-;have W10:=W9.same e10;have hcs:=e10 _ _ hcs;have ht10:=e10 _ _ ht9;clear W9 ht9 e10 nq2;refine⟨a1,_,S,tkb x,(by cases tkb x<;>rfl),W10.y,?_⟩;refine⟨rfl,?_⟩;refine⟨l2,λq3 nq3=>?_⟩;have e11:=ag (o:=.tup [V.str "deed",V.non]) nq3;have v11':upd H10 q3 (.tup [V.str "deed",V.non]) q3=some (.tup [V.str "deed",V.non]):=a6;generalize upd H10 q3 (.tup [V.str "deed",V.non])=H11 at e11 v11' |-;have W11:=W10.same e11;have hcs:=e11 _ _ hcs;have ht11:=e11 _ _ ht10;clear W10 ht10 e11 nq3;have lb:∀ b,(S.rs b).length < 1000:=λb=>by have:=W11.iy.len b;omega
     have el:=W11.el;refine⟨λσ' H'=>∃ (dq:Addr) (key0:Str) (v0:V),σ'=[some (.ref l),some (.int s),some (.int R),some (.int n),some (.ref ft),some (.ref a1.y),some (.ref tk),some (.ref st),some (.int c),some (.ref t),some (.bl (wkb x)),some (.bl (decide (V.str (S.bd (tkb x)).key=V.str "up"))),some (.ref dq),v13,v14,v15]/\bG H11 H'/\H' dq=some (.tup [.str key0,v0])/\(wkb x=true->key0=(x.out (yp0 s R n) S).1/\DV H' (x.out (yp0 s R n) S).2.1 v0),?_,?_⟩
     . refine⟨λb H'=>H'=H11/\b=(wkb x && decide (V.str (S.bd (tkb x)).key=V.str "up")),?_,?_⟩
       . refine⟨_,rfl,_,rfl,?_⟩;cases hw:wkb x with
        |false=>exact cU ⟨rfl,rfl⟩
        |true=>exact fX ⟨_,rfl,_,rfl,rfl,rfl⟩
       rintro b H' ⟨rfl,rfl⟩;cases hw:wkb x with
      |false=>exact cU ⟨q3,_,_,rfl,λ_ _ e=>e,v11',λz=>by cases z⟩
      |true =>
        obtain⟨wk,sd⟩:=yq hw;by_cases hb:S.bd (tkb x)=.up
        . refine ic (by rw[Bool.true_and];exact decide_eq_true (by rw[hb];rfl)) ?_;refine⟨_,rfl,_,rfl,_,rfl,_,rfl,_,rfl,a1,S,st,t,zs,es,s,R,n,x,rfl,W11.y,W11.q,lb,W11.hs,W11.pr,by omega,ht11,wk,by rw[sd];exact hb,λr v H12 e12 _ hr12 dv12=>?_⟩;exact⟨r,_,v,rfl,e12,hr12,λ_=>⟨rfl,dv12⟩⟩
        . refine cf (by rw[Bool.true_and,decide_eq_true_eq];exact sne (λz=>hb (BW z))) ?_;refine⟨q3,_,_,rfl,λ_ _ e=>e,v11',λ_=>?_⟩;rw[Cz hw (by rw[sd];exact hb)];exact⟨rfl,rfl⟩
     rintro σ' H12 ⟨dq,key0,v0,rfl,e12,hdq,due⟩;have W12:=W11.same e12;have hcs:=e12 _ _ hcs;have ht12:=e12 _ _ ht11;clear W11 ht11 e12 v11';obtain⟨fs',fl1,hfs,Q13⟩:=W12.q.out x;have fl:=BY (q:=yp0 s R n) (S:=S) x;have fc:x.ftc->Fch (x.out (yp0 s R n) S).2.1:=λh=>Dt h
     have tly:=Ax (q:=yp0 s R n) (S:=S) x;refine⟨_,rfl,_,rfl,a1,_,S,2 * i,x,t,rfl,⟨W12.y,qok,W12.iy,by omega⟩,ht12,xo,λv r H13 Y13 i13 dv13 nr13 hr13 ko13=>?_⟩;have tu:=uU ko13 W12.y.noT;have hcs:=ko13 _ _ (λz=>nbp (.inl z)) hcs;have ht13:=tu _ _ ht12;have hdq:=tu _ _ hdq;have due:wkb x=true->key0=(x.out (yp0 s R n) S).1/\DV H13 (x.out (yp0 s R n) S).2.1 v0:=λh=>⟨(due h).1,DV.fl tu fl (due h).2⟩
     have htk13:=ko13 _ _ W12.n1 W12.ht;have hst13:=ko13 _ _ W12.n2 W12.hs;have pr13:Paired (EvR H13) es zs:=Paired.mapP W12.pr λ_ _ q=>q.keep tu
     have n1:=W12.n1;have n2:=W12.n2;have n3:=W12.n3;have tl12:=W12.tl;clear W12 ht12 ko13 tu nr13 lb;refine⟨λb H'=>b=false/\bG H13 H',?_,?_⟩
     . refine⟨_,rfl,_,rfl,?_⟩;cases hw:wkb x with
      |false=>exact cU ⟨rfl,λ_ _ e=>e⟩
      |true =>
        obtain⟨hk,hdv⟩:=due hw;rw[hk]at hdq;exact fX ⟨_,rfl,_,rfl,.ref r,.ref dq,Bk (yp0 s R n) S x,rfl,⟨r,_,rfl,hr13,_,_,rfl,rfl,_,_,rfl,dv13,rfl⟩,⟨dq,_,rfl,hdq,_,_,rfl,rfl,_,_,rfl,hdv,rfl⟩,tly.1,tly.2,λH14 e14=>⟨_,rfl,rfl,e14⟩⟩
     rintro b H14 ⟨rfl,e14⟩;refine cU ?_;have hcs:=e14 _ _ hcs;have ht14:=e14 _ _ ht13;have hr14:=e14 _ _ hr13;have dv14:=DV.fl (λb vs e=>e14 b _ e) fl dv13;have htk14:=e14 _ _ htk13;have hst14:=e14 _ _ hst13;have pr14:=dN pr13 e14;have Y14:=Y13.same e14;clear ht13 hr13 dv13 htk13 hst13 pr13 Y13 e14 hdq due tly;have zl:=aX pr14;refine⟨λσ' H'=>∃ (st':Addr) (zs':List V),σ'=[some (.ref l),some (.int s),some (.int R),some (.int n),some (.ref ft),some (.ref a1.y),some (.ref tk),some (.ref st'),some (.int c),some (.ref t),some (.bl (wkb x)),some (.bl (decide (V.str (S.bd (tkb x)).key=V.str "up"))),some (.ref dq),some (.ref r),v14,v15]/\bG H14 H'/\H' st'=some (.lst zs')/\Paired (EvR H') (es++fs') zs'/\¬ a1.own st'/\st'≠tk,?_,?_⟩
     . refine⟨_,rfl,_,rfl,?_⟩;cases hw:wkb x with
      |false =>
        have e0:fs'=[]:=uD (by rw[<-hfs,Dj hw]);refine cU ⟨st,zs,rfl,λ_ _ e=>e,hst14,by rw[e0,append_nil];exact pr14,n2,n3⟩
      |true =>
        obtain⟨wk,sd⟩:=yq hw;refine fX ?_;refine⟨_,rfl,_,rfl,_,rfl,t,r,x,_,_,v,fs',rfl,ht14,hr14,dv14,wk,fc,hfs,λlh ys H15 e15 nlh hlh pe=>⟨st,lh,zs,ys,rfl,rfl,e15 _ _ hst14,hlh,?_,λst' nst'=>?_⟩⟩
        . have:=aX pe;exact Nat.le_trans (show _ <= 1000 by omega) (by decide)
        . have e16:=ag (o:=.lst (zs++ys)) nst';have E16:=e15.trans e16;refine⟨st',zs++ys,rfl,E16,a6,jj (dN pr14 E16) (dN pe e16),(Y14.same e15).fresh nst',λz=>?_⟩;rw[z,e15 _ _ htk14]at nst';cases nst'
     rintro σ' H15 ⟨st',zs',rfl,e15,hst15,pr15,n2',n3'⟩;have hcs:=e15 _ _ hcs;have ht15:=e15 _ _ ht14;have hr15:=e15 _ _ hr14;have dv15:=DV.fl (λb vs e=>e15 b _ e) fl dv14;have W15:W30 w a H15 a1 s R n (x.out (yp0 s R n) S).2.2 (es++fs') (2 * i+2) tk st' ts zs':=⟨Y14.same e15,i13,Q13,e15 _ _ htk14,by omega,hst15,pr15,by rw[List.length_append];omega,n1,n2',n3'⟩
     clear ht14 hr14 dv14 htk14 hst14 pr14 Y14 e15 hst15 pr15 n2 n3 zl;refine⟨_,rfl,_,rfl,_,rfl,tk,t,r,ts,x,_,_,v,rfl,W15.ht,ht15,hr15,dv15,fc,by omega,λH16 h16 kp16=>?_⟩;have al:(x.aft ts (x.out (yp0 s R n) S).1 (x.out (yp0 s R n) S).2.1).length <= 2 * i+2:=by
      have:=Du (ts:=ts) (x:=x) (key:=(x.out (yp0 s R n) S).1) (d:=(x.out (yp0 s R n) S).2.1);omega
     have W16:=W15.stepT kp16 h16 al;have hcs:=kp16 _ _ (λz=>nbp (.inr (mem_singleton.mp z))) hcs;clear W15 ht15 hr15 dv15 kp16 h16 al;generalize x.aft ts (x.out (yp0 s R n) S).1 (x.out (yp0 s R n) S).2.1=ts' at W16;generalize (x.out (yp0 s R n) S).2.2=S' at W16 Q13 i13;generalize es++fs'=es' at W16 Q13;have ul:=Q13.und.len (by have:=mk.n9;omega);have kl:=Q13.tkd.len (by omega);refine⟨_,rfl,st',zs',es',S'.un,S'.tk,rfl,W16.hs,W16.pr,by have:=W16.el;omega,Q13.pu,Q13.tp,by omega,by omega,λtn l1 l2' us ks H17 e17 _ htn pu su hl1 pk sk hl2=>?_⟩;refine⟨tn,_,rfl,SqT.of htn,rfl,_,_,rfl,_,_,rfl,rfl,?_⟩;have W17:=W16.same e17;have hcs:=e17 _ _ hcs;clear W16 e17 htn;refine⟨_,rfl,_,rfl,_,rfl,_,rfl,a1,S',st',zs',es',s,R,n,rfl,W17.y,Q13.q,mk.R4,(λb=>by have:=W17.iy.len b;omega),W17.hs,W17.pr,by have:=W17.el;omega,λH18 e18=>⟨_,rfl,cU ?_⟩⟩;have W18:=W17.same e18;have hcs:=e18 _ _ hcs;have hl1:=e18 _ _ hl1;have hl2:=e18 _ _ hl2;clear W17 e18;refine⟨_,rfl,gO W18.y.ob (jM (by decide +kernel)) ⟨a1,_,S',rfl,W18.y,by omega,by omega,λtq us2 ks2 vs H19 pu2 su2 pk2 sk2 _ e19 htq dvq=>?_⟩⟩;have W19:=W18.same e19;have hcs:=e19 _ _ hcs;have hl1:=e19 _ _ hl1;have hl2:=e19 _ _ hl2;clear W18 e19;obtain⟨b0,vs0,eb,hb0,w0,r0,rfl,d0,w1,r1,rfl,d1,w2,r2,rfl,d2,w3,r3,rfl,d3,w4,r4,rfl,d4,w5,r5,rfl,d5,w6,r6,rfl,d6,rfl⟩:=dvq;cases eb;refine⟨_,rfl,_,rfl,tq,_,rfl,SqT.of hb0,(by show ¬ (HT.sIx 7 0 (some 3)=0/\HT.sIx 7 7 (some 5)=7);decide),λpp npp=>?_⟩;have f1:=ag (o:=.tup (tf [w0,w1,w2,w3,w4,w5,w6] (some 3) (some 5))) npp;have g1:upd H19 pp (.tup (tf [w0,w1,w2,w3,w4,w5,w6] (some 3) (some 5))) pp=some (.tup [w3,w4]):=a6;generalize upd H19 pp (.tup (tf [w0,w1,w2,w3,w4,w5,w6] (some 3) (some 5)))=H20 at f1 g1 |-;refine⟨_,rfl,l1,_,rfl,.inl ⟨SqL.of (f1 _ _ hl1),λc1 nc1=>?_⟩⟩;have f2:=ag (o:=.tup (us.map V.int)) nc1;have g2:upd H20 c1 (.tup (us.map V.int)) c1=some (.tup (us.map V.int)):=a6;generalize upd H20 c1 (.tup (us.map V.int))=H21 at f2 g2 |-;refine⟨_,rfl,l2',_,rfl,.inl ⟨SqL.of (f2 _ _ (f1 _ _ hl2)),λc2 nc2=>⟨l2,λtt ntt=>?_⟩⟩⟩;have f3:=ag (o:=.tup (ks.map V.int)) nc2;have f4:=ag (o:=.tup [V.ref c1,V.ref c2]) ntt;have g3:=f4 _ _ (a6 (H:=H21) (a:=c2) (o:=.tup (ks.map V.int)));have g4:=a6 (H:=upd H21 c2 (.tup (ks.map V.int))) (a:=tt) (o:=.tup [V.ref c1,V.ref c2]);have f34:=f3.trans f4;have f14:=f1.trans (f2.trans f34);generalize upd (upd H21 c2 (.tup (ks.map V.int))) tt (.tup [V.ref c1,V.ref c2])=H22 at f34 f14 g3 g4 |-;have g1:=f2.trans f34 _ _ g1;have g2:=f34 _ _ g2;have eu:us2=us:=vR pu2 su2 pu su;have ek:ks2=ks:=vR pk2 sk2 pk sk;subst eu ek;have tu:∀ b vs,H19 b=some (.tup vs)->H22 b=some (.tup vs):=λb vs e=>f14 b _ e
     have kk:Kt5 (.tuple [DZ us2,DZ ks2]):=.tup λd hd=>by
      rcases mem_cons.mp hd with z|z
      . rw[z];exact Kt.ints _
      . rw[mem_singleton.mp z];exact Kt.ints _
     refine⟨.ref pp,.ref tt,.tuple [DZ us2,DZ ks2],rfl,⟨pp,_,rfl,g1,_,_,rfl,DV.keep tu _ _ (Kt.ints _).1 d3,_,_,rfl,DV.keep tu _ _ (Kt.ints _).1 d4,rfl⟩,⟨tt,_,rfl,g4,_,_,rfl,⟨c1,_,rfl,g2,lJ _⟩,_,_,rfl,⟨c2,_,rfl,g3,lJ _⟩,rfl⟩,kk.lay.1,kk.lay.2,λH23 e23=>⟨_,rfl,cU ?_⟩⟩;exact⟨S',es',st',ts',zs',⟨_,_,_,_,_,_,_,_,rfl⟩,W19.same (f14.trans e23),e23 _ _ (f14 _ _ hcs)⟩
   . rintro σ H7 ⟨S,es,st,ts,zs,⟨v8,v9,v10,v11,v12,v13,v14,v15,rfl⟩,W,hcs⟩;refine⟨_,rfl,gO W.y.ob (jM (by decide +kernel)) ⟨a1,_,S,rfl,W.y,λlf tsf hlf dvf=>?_⟩⟩;have e9:=ag (o:=.lst tsf) hlf;have hq:=W.q.q.hs;have fl9:=(Gf es).lay;have dvf':=DVs.fl (λb vs e=>e9 b _ e) W.y.fl dvf;rw[hq]at dvf';exact⟨_,rfl,.ref lf,.ref st,.list (es.map evD),rfl,⟨lf,tsf,rfl,a6,dvf'⟩,⟨st,zs,rfl,e9 _ _ W.hs,xM (dN W.pr e9)⟩,fl9.1,fl9.2,λH' _=>k _⟩
def FnA (K:PySem.W.Frag) (f:Addr) (x q:Str) (st:Stmt):Prop:=∃ fd,Fun K x q st f fd
def NsA (K:PySem.W.Frag) (f:Addr) (x:Str) (st:Stmt):Prop:=nsIn K mainGlobals x=some (some (.ref f))/\FnA K f x x st
def MtA (K:PySem.W.Frag) (C f:Addr) (x q:Str) (st:Stmt):Prop:=findIn K (.ref C) x=some (some (.ref f))/\isFn K (.ref f)=true/\FnA K f x q st
def ClA (K:PySem.W.Frag) (C:Addr) (x:Str):Prop:=nsIn K mainGlobals x=some (some (.ref C))/\Cls K C/\makesIn K C=true/\keepIn K (.ref C)=true
def Eg (K:PySem.W.Frag) (C:Addr):List Str->Prop
|[]=>True
|f :: r=>be K C f/\Eg K C r
def GU (K:PySem.W.Frag):List Str->Prop
|[]=>True
|f :: r=>nsIn K mainGlobals f=some none/\GU K r
section
variable {K:PySem.W.Frag}{h:Heap}{mg:Str->Option Value}{f C:Addr}{x q:Str}{st:Stmt}
theorem bZ (X:K.In h) (G:h.Ns mainGlobals mg) (l:NsA K f x st):mg x=some (.ref f)/\∃ fd,Fun K x x st f fd:=⟨mg_of X G l.1,l.2⟩
theorem bb (l:MtA K C f x q st):Meth K C x f/\∃ fd,Fun K x q st f fd:=by
 obtain⟨a,i,fd,F⟩:=l;exact⟨⟨a,i,F.kp⟩,fd,F⟩
theorem sg (X:K.In h) (G:h.Ns mainGlobals mg) (l:ClA K C x) (m:MtA K C f "__init__" q st):mg x=some (.ref C)/\Cls K C/\Mk K C f:=⟨mg_of X G l.1,l.2.1,l.2.2.1,m.1,m.2.1,l.2.2.2⟩
end
theorem bnc {n:Nat}{us:List Value}(h:us.length=n+1):∃u vs,us=u::vs/\vs.length=n:=by
 cases us
 . cases h
 . exact⟨_,_,rfl,Nat.succ.inj h⟩
theorem bn1 {K:PySem.W.Frag}{f:Addr}{x q:Str}{st:Stmt}{fd:FuncData}(F:Fun K x q st f fd) (p0:Str) (h:∀ (kV doc pm:Value) (an:Option Addr) (cdv ct:Value) (u0:Value),bindArgs (fnOf x q (fq st) (eI st) (ah st) .none kV doc pm an cdv ct) ⟨[u0],[]⟩=pure ([p0].zip [u0])):aC K fd [p0] []:=F.binds λa b c d e g us hl=>by(obtain⟨u0,t0,rfl,j0⟩:=bnc hl;obtain rfl:=List.length_eq_zero_iff.mp j0;exact h a b c d e g u0)
theorem bn2 {K:PySem.W.Frag}{f:Addr}{x q:Str}{st:Stmt}{fd:FuncData}(F:Fun K x q st f fd) (p0 p1:Str) (h:∀ (kV doc pm:Value) (an:Option Addr) (cdv ct:Value) (u0 u1:Value),bindArgs (fnOf x q (fq st) (eI st) (ah st) .none kV doc pm an cdv ct) ⟨[u0,u1],[]⟩=pure ([p0,p1].zip [u0,u1])):aC K fd [p0,p1] []:=F.binds λa b c d e g us hl=>by(obtain⟨u0,t0,rfl,j0⟩:=bnc hl;obtain⟨u1,t1,rfl,j1⟩:=bnc j0;obtain rfl:=List.length_eq_zero_iff.mp j1;exact h a b c d e g u0 u1)
theorem bn3 {K:PySem.W.Frag}{f:Addr}{x q:Str}{st:Stmt}{fd:FuncData}(F:Fun K x q st f fd) (p0 p1 p2:Str) (h:∀ (kV doc pm:Value) (an:Option Addr) (cdv ct:Value) (u0 u1 u2:Value),bindArgs (fnOf x q (fq st) (eI st) (ah st) .none kV doc pm an cdv ct) ⟨[u0,u1,u2],[]⟩=pure ([p0,p1,p2].zip [u0,u1,u2])):aC K fd [p0,p1,p2] []:=F.binds λa b c d e g us hl=>by(obtain⟨u0,t0,rfl,j0⟩:=bnc hl;obtain⟨u1,t1,rfl,j1⟩:=bnc j0;obtain⟨u2,t2,rfl,j2⟩:=bnc j1;obtain rfl:=List.length_eq_zero_iff.mp j2;exact h a b c d e g u0 u1 u2)
theorem bn4 {K:PySem.W.Frag}{f:Addr}{x q:Str}{st:Stmt}{fd:FuncData}(F:Fun K x q st f fd) (p0 p1 p2 p3:Str) (h:∀ (kV doc pm:Value) (an:Option Addr) (cdv ct:Value) (u0 u1 u2 u3:Value),bindArgs (fnOf x q (fq st) (eI st) (ah st) .none kV doc pm an cdv ct) ⟨[u0,u1,u2,u3],[]⟩=pure ([p0,p1,p2,p3].zip [u0,u1,u2,u3])):aC K fd [p0,p1,p2,p3] []:=F.binds λa b c d e g us hl=>by(obtain⟨u0,t0,rfl,j0⟩:=bnc hl;obtain⟨u1,t1,rfl,j1⟩:=bnc j0;obtain⟨u2,t2,rfl,j2⟩:=bnc j1;obtain⟨u3,t3,rfl,j3⟩:=bnc j2;obtain rfl:=List.length_eq_zero_iff.mp j3;exact h a b c d e g u0 u1 u2 u3)
theorem bn5 {K:PySem.W.Frag}{f:Addr}{x q:Str}{st:Stmt}{fd:FuncData}(F:Fun K x q st f fd) (p0 p1 p2 p3 p4:Str) (h:∀ (kV doc pm:Value) (an:Option Addr) (cdv ct:Value) (u0 u1 u2 u3 u4:Value),bindArgs (fnOf x q (fq st) (eI st) (ah st) .none kV doc pm an cdv ct) ⟨[u0,u1,u2,u3,u4],[]⟩=pure ([p0,p1,p2,p3,p4].zip [u0,u1,u2,u3,u4])):aC K fd [p0,p1,p2,p3,p4] []:=F.binds λa b c d e g us hl=>by(obtain⟨u0,t0,rfl,j0⟩:=bnc hl;obtain⟨u1,t1,rfl,j1⟩:=bnc j0;obtain⟨u2,t2,rfl,j2⟩:=bnc j1;obtain⟨u3,t3,rfl,j3⟩:=bnc j2;obtain⟨u4,t4,rfl,j4⟩:=bnc j3;obtain rfl:=List.length_eq_zero_iff.mp j4;exact h a b c d e g u0 u1 u2 u3 u4)
theorem bn6 {K:PySem.W.Frag}{f:Addr}{x q:Str}{st:Stmt}{fd:FuncData}(F:Fun K x q st f fd) (p0 p1 p2 p3 p4 p5:Str) (h:∀ (kV doc pm:Value) (an:Option Addr) (cdv ct:Value) (u0 u1 u2 u3 u4 u5:Value),bindArgs (fnOf x q (fq st) (eI st) (ah st) .none kV doc pm an cdv ct) ⟨[u0,u1,u2,u3,u4,u5],[]⟩=pure ([p0,p1,p2,p3,p4,p5].zip [u0,u1,u2,u3,u4,u5])):aC K fd [p0,p1,p2,p3,p4,p5] []:=F.binds λa b c d e g us hl=>by(obtain⟨u0,t0,rfl,j0⟩:=bnc hl;obtain⟨u1,t1,rfl,j1⟩:=bnc j0;obtain⟨u2,t2,rfl,j2⟩:=bnc j1;obtain⟨u3,t3,rfl,j3⟩:=bnc j2;obtain⟨u4,t4,rfl,j4⟩:=bnc j3;obtain⟨u5,t5,rfl,j5⟩:=bnc j4;obtain rfl:=List.length_eq_zero_iff.mp j5;exact h a b c d e g u0 u1 u2 u3 u4 u5)
theorem bn7 {K:PySem.W.Frag}{f:Addr}{x q:Str}{st:Stmt}{fd:FuncData}(F:Fun K x q st f fd) (p0 p1 p2 p3 p4 p5 p6:Str) (h:∀ (kV doc pm:Value) (an:Option Addr) (cdv ct:Value) (u0 u1 u2 u3 u4 u5 u6:Value),bindArgs (fnOf x q (fq st) (eI st) (ah st) .none kV doc pm an cdv ct) ⟨[u0,u1,u2,u3,u4,u5,u6],[]⟩=pure ([p0,p1,p2,p3,p4,p5,p6].zip [u0,u1,u2,u3,u4,u5,u6])):aC K fd [p0,p1,p2,p3,p4,p5,p6] []:=F.binds λa b c d e g us hl=>by(obtain⟨u0,t0,rfl,j0⟩:=bnc hl;obtain⟨u1,t1,rfl,j1⟩:=bnc j0;obtain⟨u2,t2,rfl,j2⟩:=bnc j1;obtain⟨u3,t3,rfl,j3⟩:=bnc j2;obtain⟨u4,t4,rfl,j4⟩:=bnc j3;obtain⟨u5,t5,rfl,j5⟩:=bnc j4;obtain⟨u6,t6,rfl,j6⟩:=bnc j5;obtain rfl:=List.length_eq_zero_iff.mp j6;exact h a b c d e g u0 u1 u2 u3 u4 u5 u6)
theorem all_mk {l:PySem.W.OpenLaw}{w:World}{K:PySem.W.Frag}{h:Heap}{mg:Str->Option Value}{fa:Addr}(X:K.In h) (G:h.Ns mainGlobals mg) (hfa:mg "law"=some (.ref fa))
 {f_z0 f_z1 f_z2 f_z3 f_z4 f_z5 f_z6 f_z7 f_z8 f_z9 f_z10 f_z11 f_z12 f_z13 f_z14 f_z15 f_z16 f_z17 f_z18 f_z19 f_z20 f_z21 f_z22 f_z23 f_z24 f_z25 f_z26 f_z27 f_z28 f_z29 f_z30 f_z31 f_z32 f_z33 f_z34 f_z35 f_z36 f_z37 f_z38 f_z39 f_z40 f_z41 f_z42 f_z43 f_z44 f_z45 f_z46 f_z47 f_z48 f_z49 f_z50 f_z51 f_z52 f_z53 f_z54 f_z55 f_z56 f_z57 f_z58 f_z59 f_z60 f_z61 f_z62 f_z63 f_z64 f_z65 f_z66 f_z67 C_Ring C_Hand C_Heart C_Store C_Yard C_RingError C_Full C_NoName C_NoTask C_NoDeed jA cW aQ jT fJ fm fB fA fU fF fV fW:Addr}
 {tod_ASKS:Option Addr} {tsl_ASKS:Array (Option Value)} {tn_ASKS:Nat} {tt0_ASKS tt1_ASKS tt2_ASKS:Tok}
 {tod_ANSWERS:Option Addr} {tsl_ANSWERS:Array (Option Value)} {tn_ANSWERS:Nat} {tt0_ANSWERS tt1_ANSWERS tt2_ANSWERS:Tok}
 {tod_SLEEP_CELLS:Option Addr} {tsl_SLEEP_CELLS:Array (Option Value)} {tn_SLEEP_CELLS:Nat} {tt0_SLEEP_CELLS tt1_SLEEP_CELLS:Tok}
 {ti_MOST_WORTH:Tok}
 {tep_FORMS:Nat} {th0_FORMS th1_FORMS th2_FORMS th3_FORMS th4_FORMS th5_FORMS th6_FORMS th7_FORMS:Int} {tk0_FORMS tk1_FORMS tk2_FORMS tk3_FORMS tk4_FORMS tk5_FORMS tk6_FORMS tk7_FORMS:Tok}
 {vod0_FORMS:Option Addr} {vsl0_FORMS:Array (Option Value)} {vn0_FORMS:Nat} {vt0_0_FORMS:Tok}
 {vod1_FORMS:Option Addr} {vsl1_FORMS:Array (Option Value)} {vn1_FORMS:Nat}
 {vod2_FORMS:Option Addr} {vsl2_FORMS:Array (Option Value)} {vn2_FORMS:Nat}
 {vod3_FORMS:Option Addr} {vsl3_FORMS:Array (Option Value)} {vn3_FORMS:Nat} {vt3_0_FORMS vt3_1_FORMS:Tok}
 {vod4_FORMS:Option Addr} {vsl4_FORMS:Array (Option Value)} {vn4_FORMS:Nat} {vt4_0_FORMS:Tok}
 {vod5_FORMS:Option Addr} {vsl5_FORMS:Array (Option Value)} {vn5_FORMS:Nat} {vt5_0_FORMS:Tok}
 {vod6_FORMS:Option Addr} {vsl6_FORMS:Array (Option Value)} {vn6_FORMS:Nat} {vt6_0_FORMS:Tok}
 {vod7_FORMS:Option Addr} {vsl7_FORMS:Array (Option Value)} {vn7_FORMS:Nat} {vt7_0_FORMS:Tok}
 (aC_Ring:ClA K C_Ring "Ring")
 (aC_Hand:ClA K C_Hand "Hand")
 (aC_Heart:ClA K C_Heart "Heart")
 (aC_Store:ClA K C_Store "Store")
 (aC_Yard:ClA K C_Yard "Yard")
 (l_z0:NsA K f_z0 "next_counter" gz)
 (l_z1:NsA K f_z1 "place_of" lB)
 (l_z2:NsA K f_z2 "ahead_by" lP)
 (l_z3:NsA K f_z3 "rounds_with" i8)
 (l_z4:MtA K C_Ring f_z4 "__init__" "Ring.__init__" iV)
 (l_z5:MtA K C_Ring f_z5 "filled" "Ring.filled" io)
 (l_z6:MtA K C_Ring f_z6 "is_full" "Ring.is_full" gv)
 (l_z7:MtA K C_Ring f_z7 "place_at" "Ring.place_at" fH)
 (l_z8:MtA K C_Ring f_z8 "write_further" "Ring.write_further" cS)
 (l_z9:MtA K C_Ring f_z9 "lay" "Ring.lay" lL)
 (l_z10:MtA K C_Ring f_z10 "fetch" "Ring.fetch" iX)
 (l_z11:MtA K C_Hand f_z11 "__init__" "Hand.__init__" j7)
 (l_z12:MtA K C_Hand f_z12 "least_free" "Hand.least_free" eh)
 (l_z13:MtA K C_Hand f_z13 "check_ask" "Hand.check_ask" eU)
 (l_z14:MtA K C_Hand f_z14 "ask" "Hand.ask" lQ)
 (l_z15:MtA K C_Hand f_z15 "collect" "Hand.collect" gC)
 (l_z16:MtA K C_Hand f_z16 "under_way" "Hand.under_way" eT)
 (l_z17:MtA K C_Hand f_z17 "something_waits" "Hand.something_waits" cg)
 (l_z18:MtA K C_Heart f_z18 "__init__" "Heart.__init__" gU)
 (l_z19:MtA K C_Heart f_z19 "take" "Heart.take" jd)
 (l_z20:MtA K C_Heart f_z20 "check_answer" "Heart.check_answer" cV)
 (l_z21:MtA K C_Heart f_z21 "answer" "Heart.answer" gD)
 (l_z22:MtA K C_Heart f_z22 "tasks" "Heart.tasks" im)
 (l_z23:MtA K C_Heart f_z23 "something_waits" "Heart.something_waits" c6)
 (l_z24:MtA K C_Store f_z24 "__init__" "Store.__init__" gW)
 (l_z25:MtA K C_Store f_z25 "write" "Store.write" gX)
 (l_z26:MtA K C_Store f_z26 "drain" "Store.drain" gT)
 (l_z27:MtA K C_Store f_z27 "fence" "Store.fence" i9)
 (l_z28:MtA K C_Store f_z28 "read" "Store.read" j9)
 (l_z29:MtA K C_Store f_z29 "memory" "Store.memory" gw)
 (l_z30:MtA K C_Store f_z30 "waits" "Store.waits" iD)
 (l_z31:MtA K C_Store f_z31 "cells" "Store.cells" hU)
 (l_z32:NsA K f_z32 "is_whole" lz)
 (l_z33:NsA K f_z33 "is_part" o4)
 (l_z34:NsA K f_z34 "is_deed" om)
 (l_z35:NsA K f_z35 "side_of" nE)
 (l_z36:NsA K f_z36 "text_of" nU)
 (l_z37:MtA K C_Yard f_z37 "__init__" "Yard.__init__" jf)
 (l_z38:MtA K C_Yard f_z38 "deed" "Yard.deed" kf)
 (l_z39:MtA K C_Yard f_z39 "story" "Yard.story" j3)
 (l_z40:MtA K C_Yard f_z40 "state" "Yard.state" iP)
 (l_z41:MtA K C_Yard f_z41 "sleeper" "Yard.sleeper" gl)
 (l_z42:MtA K C_Yard f_z42 "store" "Yard.store" jb)
 (l_z43:MtA K C_Yard f_z43 "check" "Yard.check" j1)
 (l_z44:MtA K C_Yard f_z44 "do_ask" "Yard.do_ask" iA)
 (l_z45:MtA K C_Yard f_z45 "do_answer" "Yard.do_answer" eX)
 (l_z46:MtA K C_Yard f_z46 "tell_fetched" "Yard.tell_fetched" dE)
 (l_z47:MtA K C_Yard f_z47 "do_bell" "Yard.do_bell" gq)
 (l_z48:MtA K C_Yard f_z48 "do_lie" "Yard.do_lie" ib)
 (l_z49:MtA K C_Yard f_z49 "do_look" "Yard.do_look" gr)
 (l_z50:MtA K C_Yard f_z50 "something_waits" "Yard.something_waits" cj)
 (l_z51:NsA K f_z51 "_law_cell_at" hG)
 (l_z52:NsA K f_z52 "_law_codes" jV)
 (l_z53:NsA K f_z53 "_law_make" lF)
 (l_z54:NsA K f_z54 "_law_same" l9)
 (l_z55:NsA K f_z55 "_law_worth" jX)
 (l_z56:NsA K f_z56 "_law_deed" lG)
 (l_z57:NsA K f_z57 "_law_tried" k9)
 (l_z58:NsA K f_z58 "_law_after" jQ)
 (l_z59:NsA K f_z59 "_law_things" iY)
 (l_z60:NsA K f_z60 "_law_waits" k8)
 (l_z61:NsA K f_z61 "_law_counts" j0)
 (l_z62:NsA K f_z62 "_law_stands" jc)
 (l_z63:NsA K f_z63 "_law_less" lq)
 (l_z64:NsA K f_z64 "_law_names" jP)
 (l_z65:NsA K f_z65 "_law_due" nQ)
 (l_z66:NsA K f_z66 "_law_happened" gm)
 (l_z67:NsA K f_z67 "law" DC)
 (na_Ring:Eg K C_Ring ["shelf","side","word","laid","fetched","size","rounds","counter_first"])
 (na_Hand:Eg K C_Hand ["asks","answers","names","going"])
 (na_Heart:Eg K C_Heart ["asks","answers","doing"])
 (na_Store:Eg K C_Store ["held","rows"])
 (na_Yard:Eg K C_Yard ["size","rounds","faults","shelf","hand","heart","bell_fences","lie_fences","look_sees","sleepers","quiet","happened"])
 (nn:GU K ["all","bool","int","isinstance","len","list","range","reversed","sorted","str","tuple","zip"])
 (aX_RingError:nsIn K mainGlobals "RingError"=some (some (.ref C_RingError)))
 (aX_Full:nsIn K mainGlobals "Full"=some (some (.ref C_Full)))
 (aX_NoName:nsIn K mainGlobals "NoName"=some (some (.ref C_NoName)))
 (aX_NoTask:nsIn K mainGlobals "NoTask"=some (some (.ref C_NoTask)))
 (aX_NoDeed:nsIn K mainGlobals "NoDeed"=some (some (.ref C_NoDeed)))
 (aT_ASKS:nsIn K mainGlobals "ASKS"=some (some (.ref jA)))
 (kT_ASKS:K.lookup jA=some ⟨.type "tuple",tod_ASKS,.seq #[.str "ask" tt0_ASKS,.str "asked" tt1_ASKS,.str "taken" tt2_ASKS] tn_ASKS,tsl_ASKS⟩)
 (aT_ANSWERS:nsIn K mainGlobals "ANSWERS"=some (some (.ref cW)))
 (kT_ANSWERS:K.lookup cW=some ⟨.type "tuple",tod_ANSWERS,.seq #[.str "answer" tt0_ANSWERS,.str "answered" tt1_ANSWERS,.str "handed" tt2_ANSWERS] tn_ANSWERS,tsl_ANSWERS⟩)
 (aT_SLEEP_CELLS:nsIn K mainGlobals "SLEEP_CELLS"=some (some (.ref aQ)))
 (kT_SLEEP_CELLS:K.lookup aQ=some ⟨.type "tuple",tod_SLEEP_CELLS,.seq #[.str "hand sleeps" tt0_SLEEP_CELLS,.str "heart sleeps" tt1_SLEEP_CELLS] tn_SLEEP_CELLS,tsl_SLEEP_CELLS⟩)
 (aI_MOST_WORTH:nsIn K mainGlobals "MOST_WORTH"=some (some (.int 1000000000 ti_MOST_WORTH)))
 (aT_FORMS:nsIn K mainGlobals "FORMS"=some (some (.ref jT)))
 (kT_FORMS:K.lookup jT=some ⟨.type "dict",none,.dict #[⟨th0_FORMS,.str "ask" tk0_FORMS,.ref fJ⟩,⟨th1_FORMS,.str "collect" tk1_FORMS,.ref fm⟩,⟨th2_FORMS,.str "take" tk2_FORMS,.ref fB⟩,⟨th3_FORMS,.str "answer" tk3_FORMS,.ref fA⟩,⟨th4_FORMS,.str "bell" tk4_FORMS,.ref fU⟩,⟨th5_FORMS,.str "lie" tk5_FORMS,.ref fF⟩,⟨th6_FORMS,.str "look" tk6_FORMS,.ref fV⟩,⟨th7_FORMS,.str "drain" tk7_FORMS,.ref fW⟩] tep_FORMS,#[]⟩)
 (kN_FORMS:(jT == sysModules)=false)
 (kV0_FORMS:K.lookup fJ=some ⟨.type "tuple",vod0_FORMS,.seq #[.str "worth" vt0_0_FORMS] vn0_FORMS,vsl0_FORMS⟩)
 (kV1_FORMS:K.lookup fm=some ⟨.type "tuple",vod1_FORMS,.seq #[] vn1_FORMS,vsl1_FORMS⟩)
 (kV2_FORMS:K.lookup fB=some ⟨.type "tuple",vod2_FORMS,.seq #[] vn2_FORMS,vsl2_FORMS⟩)
 (kV3_FORMS:K.lookup fA=some ⟨.type "tuple",vod3_FORMS,.seq #[.str "name" vt3_0_FORMS,.str "worth" vt3_1_FORMS] vn3_FORMS,vsl3_FORMS⟩)
 (kV4_FORMS:K.lookup fU=some ⟨.type "tuple",vod4_FORMS,.seq #[.str "side" vt4_0_FORMS] vn4_FORMS,vsl4_FORMS⟩)
 (kV5_FORMS:K.lookup fF=some ⟨.type "tuple",vod5_FORMS,.seq #[.str "side" vt5_0_FORMS] vn5_FORMS,vsl5_FORMS⟩)
 (kV6_FORMS:K.lookup fV=some ⟨.type "tuple",vod6_FORMS,.seq #[.str "side" vt6_0_FORMS] vn6_FORMS,vsl6_FORMS⟩)
 (kV7_FORMS:K.lookup fW=some ⟨.type "tuple",vod7_FORMS,.seq #[.str "side" vt7_0_FORMS] vn7_FORMS,vsl7_FORMS⟩)
 (xc_Full:excIn K C_Full veB "ValueError.__new__"=true)
 (xc_NoName:excIn K C_NoName veB "ValueError.__new__"=true)
 (xc_NoTask:excIn K C_NoTask veB "ValueError.__new__"=true)
 (xc_NoDeed:excIn K C_NoDeed veB "ValueError.__new__"=true)
 (mo_em_dd:exmOne K (.ref C_NoDeed) (.ref C_NoDeed)=some true)
 (mo_em_df:exmOne K (.ref C_NoDeed) (.ref C_Full)=some false)
 (mo_em_dn:exmOne K (.ref C_NoDeed) (.ref C_NoName)=some false)
 (mo_em_dt:exmOne K (.ref C_NoDeed) (.ref C_NoTask)=some false)
 (mo_em_fd:exmOne K (.ref C_Full) (.ref C_NoDeed)=some false)
 (mo_em_ff:exmOne K (.ref C_Full) (.ref C_Full)=some true)
 (mo_em_fn:exmOne K (.ref C_Full) (.ref C_NoName)=some false)
 (mo_em_ft:exmOne K (.ref C_Full) (.ref C_NoTask)=some false)
 (mo_em_nd:exmOne K (.ref C_NoName) (.ref C_NoDeed)=some false)
 (mo_em_nf:exmOne K (.ref C_NoName) (.ref C_Full)=some false)
 (mo_em_nn:exmOne K (.ref C_NoName) (.ref C_NoName)=some true)
 (mo_em_nt:exmOne K (.ref C_NoName) (.ref C_NoTask)=some false)
 (mo_em_td:exmOne K (.ref C_NoTask) (.ref C_NoDeed)=some false)
 (mo_em_tf:exmOne K (.ref C_NoTask) (.ref C_Full)=some false)
 (mo_em_tn:exmOne K (.ref C_NoTask) (.ref C_NoName)=some false)
 (mo_em_tt:exmOne K (.ref C_NoTask) (.ref C_NoTask)=some true) :
 ∃ fd:FuncData,(∀ (s:Shared) (v:Value),BindsTo s fd ⟨[v],[]⟩ [("script",v)])/\∀ base:Heap,K.In base->base.Ns mainGlobals mg->FnOk l.prog w K mg base CX0 17 fa fd ["script"] (we K):=by
 have e:=hfa.symm.trans (mg_of X G l_z67.1);cases e;obtain⟨p_Ring,q_Ring,r_Ring⟩:=sg X G aC_Ring l_z4;obtain⟨p_Hand,q_Hand,r_Hand⟩:=sg X G aC_Hand l_z11;obtain⟨p_Heart,q_Heart,r_Heart⟩:=sg X G aC_Heart l_z18;obtain⟨p_Store,q_Store,r_Store⟩:=sg X G aC_Store l_z24;obtain⟨p_Yard,q_Yard,r_Yard⟩:=sg X G aC_Yard l_z37;obtain⟨m_z0,d_z0,F_z0⟩:=bZ X G l_z0;have B_z0:=bn3 F_z0 "counter" "size" "rounds" λ_ _ _ _ _ _ _ _ _=>rfl
 obtain⟨m_z1,d_z1,F_z1⟩:=bZ X G l_z1;have B_z1:=bn2 F_z1 "counter" "size" λ_ _ _ _ _ _ _ _=>rfl
 obtain⟨m_z2,d_z2,F_z2⟩:=bZ X G l_z2;have B_z2:=bn4 F_z2 "one" "other" "size" "rounds" λ_ _ _ _ _ _ _ _ _ _=>rfl
 obtain⟨m_z3,d_z3,F_z3⟩:=bZ X G l_z3;have B_z3:=bn2 F_z3 "rounds" "faults" λ_ _ _ _ _ _ _ _=>rfl
 obtain⟨m_z4,d_z4,F_z4⟩:=bb l_z4;have B_z4:=bn7 F_z4 "self" "store" "side" "words" "size" "rounds" "faults" λ_ _ _ _ _ _ _ _ _ _ _ _ _=>rfl
 obtain⟨m_z5,d_z5,F_z5⟩:=bb l_z5;have B_z5:=bn1 F_z5 "self" λ_ _ _ _ _ _ _=>rfl
 obtain⟨m_z6,d_z6,F_z6⟩:=bb l_z6;have B_z6:=bn1 F_z6 "self" λ_ _ _ _ _ _ _=>rfl
 obtain⟨m_z7,d_z7,F_z7⟩:=bb l_z7;have B_z7:=bn2 F_z7 "self" "counter" λ_ _ _ _ _ _ _ _=>rfl
 obtain⟨m_z8,d_z8,F_z8⟩:=bb l_z8;have B_z8:=bn3 F_z8 "self" "cell" "counter" λ_ _ _ _ _ _ _ _ _=>rfl
 obtain⟨m_z9,d_z9,F_z9⟩:=bb l_z9;have B_z9:=bn3 F_z9 "self" "name" "worth" λ_ _ _ _ _ _ _ _ _=>rfl
 obtain⟨m_z10,d_z10,F_z10⟩:=bb l_z10;have B_z10:=bn1 F_z10 "self" λ_ _ _ _ _ _ _=>rfl
 obtain⟨m_z11,d_z11,F_z11⟩:=bb l_z11;have B_z11:=bn6 F_z11 "self" "store" "size" "rounds" "names" "faults" λ_ _ _ _ _ _ _ _ _ _ _ _=>rfl
 obtain⟨m_z12,d_z12,F_z12⟩:=bb l_z12;have B_z12:=bn1 F_z12 "self" λ_ _ _ _ _ _ _=>rfl
 obtain⟨m_z13,d_z13,F_z13⟩:=bb l_z13;have B_z13:=bn1 F_z13 "self" λ_ _ _ _ _ _ _=>rfl
 obtain⟨m_z14,d_z14,F_z14⟩:=bb l_z14;have B_z14:=bn2 F_z14 "self" "worth" λ_ _ _ _ _ _ _ _=>rfl
 obtain⟨m_z15,d_z15,F_z15⟩:=bb l_z15;have B_z15:=bn1 F_z15 "self" λ_ _ _ _ _ _ _=>rfl
 obtain⟨m_z16,d_z16,F_z16⟩:=bb l_z16;have B_z16:=bn1 F_z16 "self" λ_ _ _ _ _ _ _=>rfl
 obtain⟨m_z17,d_z17,F_z17⟩:=bb l_z17;have B_z17:=bn1 F_z17 "self" λ_ _ _ _ _ _ _=>rfl
 obtain⟨m_z18,d_z18,F_z18⟩:=bb l_z18;have B_z18:=bn5 F_z18 "self" "store" "size" "rounds" "faults" λ_ _ _ _ _ _ _ _ _ _ _=>rfl
 obtain⟨m_z19,d_z19,F_z19⟩:=bb l_z19;have B_z19:=bn1 F_z19 "self" λ_ _ _ _ _ _ _=>rfl
 obtain⟨m_z20,d_z20,F_z20⟩:=bb l_z20;have B_z20:=bn2 F_z20 "self" "name" λ_ _ _ _ _ _ _ _=>rfl
 obtain⟨m_z21,d_z21,F_z21⟩:=bb l_z21;have B_z21:=bn3 F_z21 "self" "name" "worth" λ_ _ _ _ _ _ _ _ _=>rfl
 obtain⟨m_z22,d_z22,F_z22⟩:=bb l_z22;have B_z22:=bn1 F_z22 "self" λ_ _ _ _ _ _ _=>rfl
 obtain⟨m_z23,d_z23,F_z23⟩:=bb l_z23;have B_z23:=bn1 F_z23 "self" λ_ _ _ _ _ _ _=>rfl
 obtain⟨m_z24,d_z24,F_z24⟩:=bb l_z24;have B_z24:=bn1 F_z24 "self" λ_ _ _ _ _ _ _=>rfl
 obtain⟨m_z25,d_z25,F_z25⟩:=bb l_z25;have B_z25:=bn4 F_z25 "self" "side" "cell" "worth" λ_ _ _ _ _ _ _ _ _ _=>rfl
 obtain⟨m_z26,d_z26,F_z26⟩:=bb l_z26;have B_z26:=bn2 F_z26 "self" "side" λ_ _ _ _ _ _ _ _=>rfl
 obtain⟨m_z27,d_z27,F_z27⟩:=bb l_z27;have B_z27:=bn2 F_z27 "self" "side" λ_ _ _ _ _ _ _ _=>rfl
 obtain⟨m_z28,d_z28,F_z28⟩:=bb l_z28;have B_z28:=bn3 F_z28 "self" "side" "cell" λ_ _ _ _ _ _ _ _ _=>rfl
 obtain⟨m_z29,d_z29,F_z29⟩:=bb l_z29;have B_z29:=bn2 F_z29 "self" "cell" λ_ _ _ _ _ _ _ _=>rfl
 obtain⟨m_z30,d_z30,F_z30⟩:=bb l_z30;have B_z30:=bn2 F_z30 "self" "side" λ_ _ _ _ _ _ _ _=>rfl
 obtain⟨m_z31,d_z31,F_z31⟩:=bb l_z31;have B_z31:=bn1 F_z31 "self" λ_ _ _ _ _ _ _=>rfl
 obtain⟨m_z32,d_z32,F_z32⟩:=bZ X G l_z32;have B_z32:=bn1 F_z32 "value" λ_ _ _ _ _ _ _=>rfl
 obtain⟨m_z33,d_z33,F_z33⟩:=bZ X G l_z33;have B_z33:=bn2 F_z33 "value" "kind" λ_ _ _ _ _ _ _ _=>rfl
 obtain⟨m_z34,d_z34,F_z34⟩:=bZ X G l_z34;have B_z34:=bn1 F_z34 "some" λ_ _ _ _ _ _ _=>rfl
 obtain⟨m_z35,d_z35,F_z35⟩:=bZ X G l_z35;have B_z35:=bn1 F_z35 "some" λ_ _ _ _ _ _ _=>rfl
 obtain⟨m_z36,d_z36,F_z36⟩:=bZ X G l_z36;have B_z36:=bn1 F_z36 "cell" λ_ _ _ _ _ _ _=>rfl
 obtain⟨m_z37,d_z37,F_z37⟩:=bb l_z37;have B_z37:=bn5 F_z37 "self" "size" "rounds" "names" "faults" λ_ _ _ _ _ _ _ _ _ _ _=>rfl
 obtain⟨m_z38,d_z38,F_z38⟩:=bb l_z38;have B_z38:=bn2 F_z38 "self" "some" λ_ _ _ _ _ _ _ _=>rfl
 obtain⟨m_z39,d_z39,F_z39⟩:=bb l_z39;have B_z39:=bn1 F_z39 "self" λ_ _ _ _ _ _ _=>rfl
 obtain⟨m_z40,d_z40,F_z40⟩:=bb l_z40;have B_z40:=bn1 F_z40 "self" λ_ _ _ _ _ _ _=>rfl
 obtain⟨m_z41,d_z41,F_z41⟩:=bb l_z41;have B_z41:=bn2 F_z41 "self" "side" λ_ _ _ _ _ _ _ _=>rfl
 obtain⟨m_z42,d_z42,F_z42⟩:=bb l_z42;have B_z42:=bn1 F_z42 "self" λ_ _ _ _ _ _ _=>rfl
 obtain⟨m_z43,d_z43,F_z43⟩:=bb l_z43;have B_z43:=bn2 F_z43 "self" "some" λ_ _ _ _ _ _ _ _=>rfl
 obtain⟨m_z44,d_z44,F_z44⟩:=bb l_z44;have B_z44:=bn2 F_z44 "self" "worth" λ_ _ _ _ _ _ _ _=>rfl
 obtain⟨m_z45,d_z45,F_z45⟩:=bb l_z45;have B_z45:=bn3 F_z45 "self" "name" "worth" λ_ _ _ _ _ _ _ _ _=>rfl
 obtain⟨m_z46,d_z46,F_z46⟩:=bb l_z46;have B_z46:=bn3 F_z46 "self" "word" "told" λ_ _ _ _ _ _ _ _ _=>rfl
 obtain⟨m_z47,d_z47,F_z47⟩:=bb l_z47;have B_z47:=bn2 F_z47 "self" "side" λ_ _ _ _ _ _ _ _=>rfl
 obtain⟨m_z48,d_z48,F_z48⟩:=bb l_z48;have B_z48:=bn2 F_z48 "self" "side" λ_ _ _ _ _ _ _ _=>rfl
 obtain⟨m_z49,d_z49,F_z49⟩:=bb l_z49;have B_z49:=bn2 F_z49 "self" "side" λ_ _ _ _ _ _ _ _=>rfl
 obtain⟨m_z50,d_z50,F_z50⟩:=bb l_z50;have B_z50:=bn2 F_z50 "self" "side" λ_ _ _ _ _ _ _ _=>rfl
 obtain⟨m_z51,d_z51,F_z51⟩:=bZ X G l_z51;have B_z51:=bn2 F_z51 "script" "k" λ_ _ _ _ _ _ _ _=>rfl
 obtain⟨m_z52,d_z52,F_z52⟩:=bZ X G l_z52;have B_z52:=bn2 F_z52 "cells" "most" λ_ _ _ _ _ _ _ _=>rfl
 obtain⟨m_z53,d_z53,F_z53⟩:=bZ X G l_z53;have B_z53:=bn1 F_z53 "cell" λ_ _ _ _ _ _ _=>rfl
 obtain⟨m_z54,d_z54,F_z54⟩:=bZ X G l_z54;have B_z54:=bn2 F_z54 "found" "due" λ_ _ _ _ _ _ _ _=>rfl
 obtain⟨m_z55,d_z55,F_z55⟩:=bZ X G l_z55;have B_z55:=bn1 F_z55 "code" λ_ _ _ _ _ _ _=>rfl
 obtain⟨m_z56,d_z56,F_z56⟩:=bZ X G l_z56;have B_z56:=bn2 F_z56 "code" "tasks" λ_ _ _ _ _ _ _ _=>rfl
 obtain⟨m_z57,d_z57,F_z57⟩:=bZ X G l_z57;have B_z57:=bn2 F_z57 "yard" "deed" λ_ _ _ _ _ _ _ _=>rfl
 obtain⟨m_z58,d_z58,F_z58⟩:=bZ X G l_z58;have B_z58:=bn3 F_z58 "tasks" "deed" "told" λ_ _ _ _ _ _ _ _ _=>rfl
 obtain⟨m_z59,d_z59,F_z59⟩:=bZ X G l_z59;have B_z59:=bn2 F_z59 "story" "word" λ_ _ _ _ _ _ _ _=>rfl
 obtain⟨m_z60,d_z60,F_z60⟩:=bZ X G l_z60;have B_z60:=bn3 F_z60 "store" "side" "cell" λ_ _ _ _ _ _ _ _ _=>rfl
 obtain⟨m_z61,d_z61,F_z61⟩:=bZ X G l_z61;have B_z61:=bn2 F_z61 "yard" "story" λ_ _ _ _ _ _ _ _=>rfl
 obtain⟨m_z62,d_z62,F_z62⟩:=bZ X G l_z62;have B_z62:=bn4 F_z62 "yard" "story" "size" "rounds" λ_ _ _ _ _ _ _ _ _ _=>rfl
 obtain⟨m_z63,d_z63,F_z63⟩:=bZ X G l_z63;have B_z63:=bn2 F_z63 "some" "others" λ_ _ _ _ _ _ _ _=>rfl
 obtain⟨m_z64,d_z64,F_z64⟩:=bZ X G l_z64;have B_z64:=bn1 F_z64 "story" λ_ _ _ _ _ _ _=>rfl
 obtain⟨m_z65,d_z65,F_z65⟩:=bZ X G l_z65;have B_z65:=bn5 F_z65 "yard" "story" "deed" "size" "many" λ_ _ _ _ _ _ _ _ _ _ _=>rfl
 obtain⟨m_z66,d_z66,F_z66⟩:=bZ X G l_z66;have B_z66:=bn2 F_z66 "deed" "told" λ_ _ _ _ _ _ _ _=>rfl
 obtain⟨m_z67,d_z67,F_z67⟩:=bZ X G l_z67;have B_z67:=bn1 F_z67 "script" λ_ _ _ _ _ _ _=>rfl
 let ad:Ad:=⟨f_z0,f_z1,f_z2,f_z3,f_z4,f_z5,f_z6,f_z7,f_z8,f_z9,f_z10,f_z11,f_z12,f_z13,f_z14,f_z15,f_z16,f_z17,f_z18,f_z19,f_z20,f_z21,f_z22,f_z23,f_z24,f_z25,f_z26,f_z27,f_z28,f_z29,f_z30,f_z31,f_z32,f_z33,f_z34,f_z35,f_z36,f_z37,f_z38,f_z39,f_z40,f_z41,f_z42,f_z43,f_z44,f_z45,f_z46,f_z47,f_z48,f_z49,f_z50,f_z51,f_z52,f_z53,f_z54,f_z55,f_z56,f_z57,f_z58,f_z59,f_z60,f_z61,f_z62,f_z63,f_z64,f_z65,f_z66,fa,C_Ring,C_Hand,C_Heart,C_Store,C_Yard,C_RingError,C_Full,C_NoName,C_NoTask,C_NoDeed,jA,cW,aQ,jT,fJ,fm,fB,fA,fU,fF,fV,fW⟩
 let dd:Fd:=⟨d_z0,d_z1,d_z2,d_z3,d_z4,d_z5,d_z6,d_z7,d_z8,d_z9,d_z10,d_z11,d_z12,d_z13,d_z14,d_z15,d_z16,d_z17,d_z18,d_z19,d_z20,d_z21,d_z22,d_z23,d_z24,d_z25,d_z26,d_z27,d_z28,d_z29,d_z30,d_z31,d_z32,d_z33,d_z34,d_z35,d_z36,d_z37,d_z38,d_z39,d_z40,d_z41,d_z42,d_z43,d_z44,d_z45,d_z46,d_z47,d_z48,d_z49,d_z50,d_z51,d_z52,d_z53,d_z54,d_z55,d_z56,d_z57,d_z58,d_z59,d_z60,d_z61,d_z62,d_z63,d_z64,d_z65,d_z66,d_z67⟩
 have GG:Gs K mg ad dd:=⟨F_z0,B_z0,m_z0,F_z1,B_z1,m_z1,F_z2,B_z2,m_z2,F_z3,B_z3,m_z3,F_z4,B_z4,F_z5,B_z5,m_z5,F_z6,B_z6,m_z6,F_z7,B_z7,m_z7,F_z8,B_z8,m_z8,F_z9,B_z9,m_z9,F_z10,B_z10,m_z10,F_z11,B_z11,F_z12,B_z12,m_z12,F_z13,B_z13,m_z13,F_z14,B_z14,m_z14,F_z15,B_z15,m_z15,F_z16,B_z16,m_z16,F_z17,B_z17,m_z17,F_z18,B_z18,F_z19,B_z19,m_z19,F_z20,B_z20,m_z20,F_z21,B_z21,m_z21,F_z22,B_z22,m_z22,F_z23,B_z23,m_z23,F_z24,B_z24,F_z25,B_z25,m_z25,F_z26,B_z26,m_z26,F_z27,B_z27,m_z27,F_z28,B_z28,m_z28,F_z29,B_z29,m_z29,F_z30,B_z30,m_z30,F_z31,B_z31,m_z31,F_z32,B_z32,m_z32,F_z33,B_z33,m_z33,F_z34,B_z34,m_z34,F_z35,B_z35,m_z35,F_z36,B_z36,m_z36,F_z37,B_z37,F_z38,B_z38,m_z38,F_z39,B_z39,m_z39,F_z40,B_z40,m_z40,F_z41,B_z41,m_z41,F_z42,B_z42,m_z42,F_z43,B_z43,m_z43,F_z44,B_z44,m_z44,F_z45,B_z45,m_z45,F_z46,B_z46,m_z46,F_z47,B_z47,m_z47,F_z48,B_z48,m_z48,F_z49,B_z49,m_z49,F_z50,B_z50,m_z50,F_z51,B_z51,m_z51,F_z52,B_z52,m_z52,F_z53,B_z53,m_z53,F_z54,B_z54,m_z54,F_z55,B_z55,m_z55,F_z56,B_z56,m_z56,F_z57,B_z57,m_z57,F_z58,B_z58,m_z58,F_z59,B_z59,m_z59,F_z60,B_z60,m_z60,F_z61,B_z61,m_z61,F_z62,B_z62,m_z62,F_z63,B_z63,m_z63,F_z64,B_z64,m_z64,F_z65,B_z65,m_z65,F_z66,B_z66,m_z66,F_z67,B_z67,m_z67,q_Ring,p_Ring,r_Ring,na_Ring.1,na_Ring.2.1,na_Ring.2.2.1,na_Ring.2.2.2.1,na_Ring.2.2.2.2.1,na_Ring.2.2.2.2.2.1,na_Ring.2.2.2.2.2.2.1,na_Ring.2.2.2.2.2.2.2.1,q_Hand,p_Hand,r_Hand,na_Hand.1,na_Hand.2.1,na_Hand.2.2.1,na_Hand.2.2.2.1,q_Heart,p_Heart,r_Heart,na_Heart.1,na_Heart.2.1,na_Heart.2.2.1,q_Store,p_Store,r_Store,na_Store.1,na_Store.2.1,q_Yard,p_Yard,r_Yard,na_Yard.1,na_Yard.2.1,na_Yard.2.2.1,na_Yard.2.2.2.1,na_Yard.2.2.2.2.1,na_Yard.2.2.2.2.2.1,na_Yard.2.2.2.2.2.2.1,na_Yard.2.2.2.2.2.2.2.1,na_Yard.2.2.2.2.2.2.2.2.1,na_Yard.2.2.2.2.2.2.2.2.2.1,na_Yard.2.2.2.2.2.2.2.2.2.2.1,na_Yard.2.2.2.2.2.2.2.2.2.2.2.1,mg_none_of X G nn.1,mg_none_of X G nn.2.1,mg_none_of X G nn.2.2.1,mg_none_of X G nn.2.2.2.1,mg_none_of X G nn.2.2.2.2.1,mg_none_of X G nn.2.2.2.2.2.1,mg_none_of X G nn.2.2.2.2.2.2.1,mg_none_of X G nn.2.2.2.2.2.2.2.1,mg_none_of X G nn.2.2.2.2.2.2.2.2.1,mg_none_of X G nn.2.2.2.2.2.2.2.2.2.1,mg_none_of X G nn.2.2.2.2.2.2.2.2.2.2.1,mg_none_of X G nn.2.2.2.2.2.2.2.2.2.2.2.1,mg_of X G aX_RingError,mg_of X G aX_Full,mg_of X G aX_NoName,mg_of X G aX_NoTask,mg_of X G aX_NoDeed,mg_of X G aT_ASKS,λ_=>.inr ⟨_,_,_,kT_ASKS,rfl,rfl,by show 3 <= sizeLine;decide,(.cons ⟨_,rfl⟩ (.cons ⟨_,rfl⟩ (.cons ⟨_,rfl⟩ .nil)))⟩,mg_of X G aT_ANSWERS,λ_=>.inr ⟨_,_,_,kT_ANSWERS,rfl,rfl,by show 3 <= sizeLine;decide,(.cons ⟨_,rfl⟩ (.cons ⟨_,rfl⟩ (.cons ⟨_,rfl⟩ .nil)))⟩,mg_of X G aT_SLEEP_CELLS,λ_=>.inr ⟨_,_,_,kT_SLEEP_CELLS,rfl,rfl,by show 2 <= sizeLine;decide,(.cons ⟨_,rfl⟩ (.cons ⟨_,rfl⟩ .nil))⟩,⟨_,mg_of X G aI_MOST_WORTH⟩,mg_of X G aT_FORMS,⟨kN_FORMS,_,_,_,kT_FORMS,⟨rfl,rfl,rfl⟩,rfl,(.cons rfl rfl (.cons rfl rfl (.cons rfl rfl (.cons rfl rfl (.cons rfl rfl (.cons rfl rfl (.cons rfl rfl (.cons rfl rfl .nil))))))))⟩,λ_=>.inr ⟨_,_,_,kV0_FORMS,rfl,rfl,by show 1 <= sizeLine;decide,(.cons ⟨_,rfl⟩ .nil)⟩,λ_=>.inr ⟨_,_,_,kV1_FORMS,rfl,rfl,by show 0 <= sizeLine;decide,.nil⟩,λ_=>.inr ⟨_,_,_,kV2_FORMS,rfl,rfl,by show 0 <= sizeLine;decide,.nil⟩,λ_=>.inr ⟨_,_,_,kV3_FORMS,rfl,rfl,by show 2 <= sizeLine;decide,(.cons ⟨_,rfl⟩ (.cons ⟨_,rfl⟩ .nil))⟩,λ_=>.inr ⟨_,_,_,kV4_FORMS,rfl,rfl,by show 1 <= sizeLine;decide,(.cons ⟨_,rfl⟩ .nil)⟩,λ_=>.inr ⟨_,_,_,kV5_FORMS,rfl,rfl,by show 1 <= sizeLine;decide,(.cons ⟨_,rfl⟩ .nil)⟩,λ_=>.inr ⟨_,_,_,kV6_FORMS,rfl,rfl,by show 1 <= sizeLine;decide,(.cons ⟨_,rfl⟩ .nil)⟩,λ_=>.inr ⟨_,_,_,kV7_FORMS,rfl,rfl,by show 1 <= sizeLine;decide,(.cons ⟨_,rfl⟩ .nil)⟩,xc_Full,xc_NoName,xc_NoTask,xc_NoDeed,mo_em_dd,mo_em_df,mo_em_dn,mo_em_dt,mo_em_fd,mo_em_ff,mo_em_fn,mo_em_ft,mo_em_nd,mo_em_nf,mo_em_nn,mo_em_nt,mo_em_td,mo_em_tf,mo_em_tn,mo_em_tt⟩
 refine⟨dd.law,?_,λbase _ _=>Fm GG⟩;obtain⟨_,_,_,_,_,_,_,_,_,e,_⟩:=F_z67.ex;intro s v;show BindsTo s d_z67 _ _;rw[e];exact .of_eq rfl
theorem walk {l:PySem.W.OpenLaw}{q:Program}{loose:List Str}{XP:(Str->Option Value)->Heap->Prop}{YP:World->Heap->Prop}{d:DefRec}{K:Params->PySem.W.Frag}(hn:l.most=some 63) (hdf:d.params.defaults=[])
 (hY:∀ (w:World) (h:Heap),YP w h->(K w.params).In h)
 (F:∀ (w:World) (mg:Str->Option Value) (fa:Addr) (h:Heap),(K w.params).In h->h.Ns mainGlobals mg->mg d.name=some (.ref fa) ->
  ∃ fd:FuncData,(∀ (s:Shared) (u:Value),BindsTo s fd ⟨[u],[]⟩ [("script",u)])/\∀ base:Heap,(K w.params).In base->base.Ns mainGlobals mg->FnOk l.prog w (K w.params) mg base CX0 17 fa fd ["script"] (we (K w.params))) :
 PySem.W.WalkO q loose XP YP l.row.toRowW d [] (λf vs=>PySem.call f vs) :=
 L2.walk_of (n:=63) (k:=17) (x:="script") (CX:=λ_=>CX0) (sp:=λw=>we (K w.params)) hn (by decide) hdf ⟨rfl,by decide,by decide⟩ hY F (λ_ _ a ns hl _ hS=>⟨a,ns,rfl,hS,hl,λ_=>rfl⟩) λ_ _ _ _ _ z=>z
end
end My
open PySem PySem.W PyProof.Rows
set_option maxRecDepth 100000 in
set_option maxHeartbeats 0 in
theorem PySem.Challenge.cw_askring_k30_whole_counters_and_places_te_holds : PySem.Challenge.rw_askring_k30_whole_counters_and_places_te.Holds := by
  w_on; o_law; k_head; (case hw => w_witness2)
  k_fill
  refine My.walk (l := PySem.Challenge.rw_askring_k30_whole_counters_and_places_te) rfl rfl (fun w h Y => PySem.W.kIn_of Y) ?F
  case F =>
    intro w mg fa h KX G hmg;refine' My.all_mk KX G hmg ?aC_Ring ?aC_Hand ?aC_Heart ?aC_Store ?aC_Yard ?l_z0 ?l_z1 ?l_z2 ?l_z3 ?l_z4 ?l_z5 ?l_z6 ?l_z7 ?l_z8 ?l_z9 ?l_z10 ?l_z11 ?l_z12 ?l_z13 ?l_z14 ?l_z15 ?l_z16 ?l_z17 ?l_z18 ?l_z19 ?l_z20 ?l_z21 ?l_z22 ?l_z23 ?l_z24 ?l_z25 ?l_z26 ?l_z27 ?l_z28 ?l_z29 ?l_z30 ?l_z31 ?l_z32 ?l_z33 ?l_z34 ?l_z35 ?l_z36 ?l_z37 ?l_z38 ?l_z39 ?l_z40 ?l_z41 ?l_z42 ?l_z43 ?l_z44 ?l_z45 ?l_z46 ?l_z47 ?l_z48 ?l_z49 ?l_z50 ?l_z51 ?l_z52 ?l_z53 ?l_z54 ?l_z55 ?l_z56 ?l_z57 ?l_z58 ?l_z59 ?l_z60 ?l_z61 ?l_z62 ?l_z63 ?l_z64 ?l_z65 ?l_z66 ?l_z67 ?na_Ring ?na_Hand ?na_Heart ?na_Store ?na_Yard ?nn ?aX_RingError ?aX_Full ?aX_NoName ?aX_NoTask ?aX_NoDeed ?aT_ASKS ?kT_ASKS ?aT_ANSWERS ?kT_ANSWERS ?aT_SLEEP_CELLS ?kT_SLEEP_CELLS ?aI_MOST_WORTH ?aT_FORMS ?kT_FORMS ?kN_FORMS ?kV0_FORMS ?kV1_FORMS ?kV2_FORMS ?kV3_FORMS ?kV4_FORMS ?kV5_FORMS ?kV6_FORMS ?kV7_FORMS ?xc_Full ?xc_NoName ?xc_NoTask ?xc_NoDeed ?mo_em_dd ?mo_em_df ?mo_em_dn ?mo_em_dt ?mo_em_fd ?mo_em_ff ?mo_em_fn ?mo_em_ft ?mo_em_nd ?mo_em_nf ?mo_em_nn ?mo_em_nt ?mo_em_td ?mo_em_tf ?mo_em_tn ?mo_em_tt
    (case aC_Ring | aC_Hand | aC_Heart | aC_Store | aC_Yard => refine' ⟨?ka, ⟨?kb, ?kc, ?kd, ?ke⟩, ?kg, ?kh⟩; (case ka => k_is); (case kb => k_is); (case kc => k_is); (case kd => k_is); (case ke => k_is); (case kg => k_is); (case kh => k_is))
    (case l_z0 | l_z1 | l_z2 | l_z3 => refine' ⟨?ka, _, L2.fun_mk ?kb ?kc ?kd⟩; (case ka => k_is); (case kb => k_is); (case kc => k_is); (case kd => k_is))
    (case l_z4 | l_z5 | l_z6 | l_z7 | l_z8 | l_z9 | l_z10 | l_z11 | l_z12 | l_z13 | l_z14 | l_z15 | l_z16 | l_z17 | l_z18 | l_z19 | l_z20 | l_z21 | l_z22 | l_z23 | l_z24 | l_z25 | l_z26 | l_z27 | l_z28 | l_z29 | l_z30 | l_z31 => refine' ⟨?ka, ?ke, _, L2.fun_mk ?kb ?kc ?kd⟩; (case ka => k_is); (case ke => k_is); (case kb => k_is); (case kc => k_is); (case kd => k_is))
    (case l_z32 | l_z33 | l_z34 | l_z35 | l_z36 => refine' ⟨?ka, _, L2.fun_mk ?kb ?kc ?kd⟩; (case ka => k_is); (case kb => k_is); (case kc => k_is); (case kd => k_is))
    (case l_z37 | l_z38 | l_z39 | l_z40 | l_z41 | l_z42 | l_z43 | l_z44 | l_z45 | l_z46 | l_z47 | l_z48 | l_z49 | l_z50 => refine' ⟨?ka, ?ke, _, L2.fun_mk ?kb ?kc ?kd⟩; (case ka => k_is); (case ke => k_is); (case kb => k_is); (case kc => k_is); (case kd => k_is))
    (case l_z51 | l_z52 | l_z53 | l_z54 | l_z55 | l_z56 | l_z57 | l_z58 | l_z59 | l_z60 | l_z61 | l_z62 | l_z63 | l_z64 | l_z65 | l_z66 | l_z67 => refine' ⟨?ka, _, L2.fun_mk ?kb ?kc ?kd⟩; (case ka => k_is); (case kb => k_is); (case kc => k_is); (case kd => k_is))
    (case na_Ring | na_Hand | na_Heart | na_Store | na_Yard => repeat (first | exact trivial | (refine' And.intro ?ka ?_; (case ka => (show PySem.W.findIn _ _ _ = _); k_is))))
    (case nn => repeat (first | exact trivial | (refine' And.intro ?ka ?_; (case ka => k_is))))
    (case aX_RingError | aX_Full | aX_NoName | aX_NoTask | aX_NoDeed | aT_ASKS | kT_ASKS | aT_ANSWERS | kT_ANSWERS | aT_SLEEP_CELLS | kT_SLEEP_CELLS | aI_MOST_WORTH | aT_FORMS | kT_FORMS => k_is)
    (case kN_FORMS => first | rfl | decide)
    (case kV0_FORMS | kV1_FORMS | kV2_FORMS | kV3_FORMS | kV4_FORMS | kV5_FORMS | kV6_FORMS | kV7_FORMS => k_is)
    (case xc_Full | xc_NoName | xc_NoTask | xc_NoDeed => k_exc)
    (case mo_em_dd | mo_em_df | mo_em_dn | mo_em_dt | mo_em_fd | mo_em_ff | mo_em_fn | mo_em_ft | mo_em_nd | mo_em_nf | mo_em_nn | mo_em_nt | mo_em_td | mo_em_tf | mo_em_tn | mo_em_tt => kts_exm)
#print axioms PySem.Challenge.cw_askring_k30_whole_counters_and_places_te_holds

