import PyProof.Rows.All
import KE.KItem
import KE.KTryMore
import KE.RegKIsAll
import KE.KNest
import KE.KFromBytes
import OpenK.ZGo
import KE.IntBitsLaws
import Wide.FinOn
import PySem.Challenge.RW_lightmark_k15_levels_rules_and_fences
set_option Elab.async false
set_option linter.all false
noncomputable section
namespace PySem.W.Fast
def tw10618449003350715457:=0
def tw11913200375554283706:=0
def tw18410122218848548014:=0
def tw2356699776708922112:=0
def tw3098885795802747378:=0
def tw12130281580324235481:=0
def tw17094661995229472624:=0
def tw13317906701291106874:=0
def tw1006012809034964323:=0
def tw2138992940214123173:=0
def tw12683870653502902290:=0
def tw17196583930176451515:=0
def tw12862978738971543461:=0
def tw3002315297207467493:=0
def tw10022166920930731396:=0
def tw12720695028852019790:=0
def tw16994085820831387585:=0
def tw15744610589456415866:=0
def tw1891704523712835429:=0
def tw16087015645500490537:=0
def tw7339205459936684458:=0
def tw18238703883903946652:=0
def tw6333386366136703154:=0
def tw6945604303206961126:=0
def tw6131629818746699672:=0
def tw16468073854036032472:=0
def tw10017499571188882997:=0
def tw17407799414547895590:=0
def tw2061943367464195215:=0
def tw2063156450514221348:=0
def tw14528580276025732324:=0
def tw3176286979592247298:=0
def tw15925661296798073193:=0
def tw2042749704005711620:=0
def tw4854557333754195501:=0
def tw9609602409740850139:=0
def tw391598995889578026:=0
def tw17459473329318709178:=0
def tw11252225584414280127:=0
def tw15325569145649763852:=0
def tw3329491907585113231:=0
def tw15710983806214894362:=0
def tw16952876671853967291:=0
def tw5468608751133302146:=0
def tw7850543754731911913:=0
def tw7865481256312054517:=0
def tw11442370914815264288:=0
def tw11647522912680275552:=0
def tw9133566290725952561:=0
def tw11086613456617755215:=0
def tw9014069959092826996:=0
def tw11069065527401839779:=0
def tw7511906433415056797:=0
def tw14229737088144386696:=0
def tw11663344810976914702:=0
def tw17080275885146969749:=0
def tw7904471928265037914:=0
def tw570914474349432201:=0
def tw12448637104171929530:=0
def tw15688855364698419410:=0
def tw6375304340975150111:=0
def tw14338194676834663589:=0
def tw4807369091706974132:=0
def tw5413915341502364666:=0
def tw14870936053622107627:=0
def tw14781185613311440648:=0
def tw12967954567866737645:=0
def tw17342657668780020597:=0
def tw8405018960916937477:=0
def tw16674195100821402873:=0
def tw2369090338778674876:=0
def tw595527220196827923:=0
def tw17434197927359323250:=0
def tw2871556943727481039:=0
def tw2172510531516166007:=0
def tw6863822670887411648:=0
def tw3662458056248543693:=0
def tw12292136423752654485:=0
def tw4302593153290328926:=0
def tw8399004358447247865:=0
def tw7458018008373524815:=0
def tw14192351563682672753:=0
def tw17349025116906014094:=0
def tw17846816216270287168:=0
def tw145424054353442271:=0
def tw2536928485121415574:=0
def tw6746533642954412340:=0
def tw8704078719663072076:=0
def tw10900494469535681848:=0
def tw5153929969210623515:=0
def tw13368546987520064631:=0
def tw14999226600153402820:=0
def tw10659140422447037098:=0
def tw8837984070628242176:=0
def tw2568828227010543208:=0
def tw11586045765410899874:=0
def tw2000086257750638342:=0
def tw5706736291902903285:=0
def tw1792294001482170259:=0
def tw340322957123662651:=0
def tw34500798490997085:=0
def tw9454743489404830023:=0
def tw7787728161395140614:=0
def tw7859086611877340503:=0
def tw13412307628881682793:=0
def tw1690664578437007555:=0
def tw3986952323794721181:=0
def tw9549271241012322371:=0
def tw14626634165894853487:=0
def tw1096042384226384172:=0
def tw6387642288314138589:=0
def tw11170521828568889962:=0
def tw1071168296292981489:=0
def tw14491157137212787136:=0
def tw7636352490128316660:=0
def tw14692785032976739850:=0
def tw3244033202740221118:=0
def tw7672141137315635389:=0
def tw8854402796443121438:=0
def tw5561170093813578715:=0
def tw4471265500962801026:=0
def tw4011019694570068180:=0
def tw1979817465508863114:=0
def tw2448587587346899324:=0
def tw3702390867289803419:=0
def tw14141435078568810379:=0
def tw16089325220552827475:=0
def tw11770321207717694986:=0
def tw16851979095793984823:=0
def tw5635264352983577500:=0
def tw3089419114512067419:=0
def tw11337227238967296590:=0
def tw6161791982439638097:=0
def tw10701462112536491402:=0
def tw12921243117457084393:=0
def tw11069467390538039856:=0
def tw1967864260884360716:=0
def tw17590710592478025801:=0
def tw1895179759303449145:=0
def tw3278320839425968125:=0
def tw9128015805354829709:=0
def tw1397884263585395636:=0
def tw15824815225983447961:=0
def tw12815220226910299472:=0
def tw9112704836000966529:=0
def tw12788893303776915810:=0
def tw4213820731877978390:=0
def tw16047578850129273565:=0
def tw10488433770633464271:=0
def tw13225629147744941975:=0
def tw3919850751975446297:=0
def tw6028147854880050969:=0
def tw12905330584485829576:=0
def tw1886552941316828406:=0
def tw10930941732894221667:=0
def tw15330680445724499112:=0
def tw6298414468264930333:=0
def tw18251676468424449798:=0
def tw3367792066858936197:=0
def tw425364754693390102:=0
def tw2651174615117487986:=0
def tw13647782298075652990:=0
def tw2183104304853128771:=0
def tw12265490275448837773:=0
def tw16781192879693130164:=0
def tw15796786337284272390:=0
def tw12491205719584208739:=0
def tw12622034615401025998:=0
def tw17876021081631381459:=0
def tw17053167260553727016:=0
def tw13514665537511691785:=0
def tw11690548094004832859:=0
def tw3268678381035517570:=0
def tw7001155630708746073:=0
def tw1540813095863448128:=0
def tw264589544907150984:=0
def tw3531757030062452797:=0
def tw2099345864411361167:=0
def tw10160254947953788456:=0
def tw9140803856618970850:=0
def tw13864513032731932566:=0
def tw3359782460078616628:=0
def tw15385837315840506947:=0
def tw418231809111234279:=0
def tw277514669953955077:=0
def tw2624877221844499236:=0
def tw5046897984158963498:=0
def tw3482921725154997776:=0
def tw5030204086673698895:=0
def tw15902217944274077086:=0
def tw6696850539899819085:=0
def tw3271552483266209055:=0
def tw10984195101778116784:=0
def tw15202177818363934112:=0
def tw4056503904112826281:=0
def tw12901536263519996803:=0
def tw13678719560386600681:=0
def tw7702418004699194798:=0
def tw15162900052905398769:=0
def tw3630660662116867974:=0
def tw1879958482666841712:=0
def tw3367518453239125147:=0
def tw15557291868373638911:=0
def tw2711447549289177650:=0
def tw6489391592890228630:=0
def tw3587208711027226158:=0
def tw3050589469381670016:=0
def tw11246030900572494072:=0
def tw11369910386812519994:=0
def tw2544668294479355788:=0
def tw13204001863822774006:=0
def tw10136801440413753671:=0
def tw7226915976240095903:=0
def tw7302323648675339105:=0
def tw6559152450539559843:=0
def tw18097425668783067019:=0
def tw4307004331611932802:=0
def tw16091487886489319456:=0
def tw14107502799449005749:=0
def tw3502172024815534408:=0
def tw6935689685777816729:=0
def tw272621082493309516:=0
def tw4996166987544816651:=0
def tw15509076590605876797:=0
def tw18409206185145788698:=0
def tw10903281047300979577:=0
def tw16503730342813740399:=0
def tw6320219132538938072:=0
def tw3845971454764483297:=0
def tw10182428425239444268:=0
def tw7814840938181587331:=0
def tw5934932501923339517:=0
def tw8267471592654938411:=0
def tw7510445004987905426:=0
def tw5857748407037952695:=0
def tw3337450468914160545:=0
def tw17997065534673458739:=0
def tw1249210303648171370:=0
def tw727143670824867084:=0
def tw9551525625203566055:=0
def tw8610753094547958865:=0
def tw16423561205349626650:=0
def tw8759093356895754220:=0
def tw8318771515721444453:=0
def tw10254341414415992205:=0
def tw8544305338256561981:=0
def tw2836174682647199831:=0
def tw7149962429265666705:=0
def tw7816092009627930197:=0
def tw7192684389591527266:=0
def tw6886719902922596817:=0
def tw15724212283524341730:=0
def tw12242346290018790604:=0
def tw13188281946929347217:=0
def tw7923034803396787789:=0
def tw11972990931413367833:=0
def tw1020317392228125630:=0
def tw5440480520846387504:=0
def tw9265116090518275338:=0
def tw6789242344287940223:=0
def tw6665779222830201423:=0
def tw10196606209062026415:=0
def tw10132647249614211757:=0
def tw11892301748427728378:=0
def tw3334888145574794798:=0
def tw4174162923610277316:=0
def tw13905188530598172416:=0
def tw18287363082940281048:=0
def tw15953918002399536247:=0
def tw15610629487820679024:=0
def tw17964170406132462420:=0
def tw2500769284092510912:=0
def tw14717022568611030652:=0
def tw14441655731541314201:=0
def tw13503718416557348168:=0
def tw4989886688069908756:=0
def tw15983525402343895249:=0
def tw2058490544626271757:=0
def tw15589891562713751296:=0
def tw12420952162481444893:=0
def tw12319995077845323896:=0
def tw7241668691478295597:=0
def tw1517526063457836409:=0
def tw5826526282981826624:=0
def tw16077733243892786172:=0
def tw12096174589205782601:=0
def tw12313210620810273104:=0
def tw11801793255566972440:=0
def tw15137648421016297757:=0
def tw16031707293815920863:=0
def tw10496544281813750455:=0
def tw2351458892091827320:=0
def tw13757790880930907509:=0
def tw735127847560394691:=0
def tw12242745840438314237:=0
def tw16681301237348483764:=0
def tw14765215141552043708:=0
def tw1435064212183795459:=0
def tw11524035514814339968:=0
def tw4085549411470318977:=0
def tw1877545414296404915:=0
def tw2623405125221179038:=0
def tw2354747872471851637:=0
def tw12704794924156215171:=0
def tw2608712053422993776:=0
def tw13119481664192400005:=0
def tw17341682612904610534:=0
def tw15779953176899508698:=0
def tw3174164797716451187:=0
def tw16684282874674549825:=0
def tw7798851083909058018:=0
def tw10402700261650356772:=0
def tw1507038769555754744:=0
def tw9064653188721789590:=0
def tw2864016969190377928:=0
def tw17025598574402609226:=0
def tw16336274905510424835:=0
def tw3587024289412360115:=0
def tw13177664738693645170:=0
def tw14255777631509747843:=0
def tw5582872650597796192:=0
def tw5113476437858901921:=0
def tw16135423997461355188:=0
def tw15081095387473600281:=0
def tw796176902101581621:=0
def tw3124734271456344786:=0
def tw5439122193239172502:=0
def tw13180811019316291934:=0
def tw11393595100254536187:=0
def tw1042736646120448986:=0
def tw1999200308824754355:=0
def tw155506447899213563:=0
def tw16303730801804542918:=0
def tw8769561869913943008:=0
def tw1580921279144440828:=0
def tw14454895452026739804:=0
def tw14881090001508896666:=0
def tw11717971064255548771:=0
def tw7514951508005137915:=0
def tw1512501958026375352:=0
def tw9431068948142993851:=0
def tw16867621193774932321:=0
def tw16338828418366274424:=0
def tw7950351072446959528:=0
def tw4981226682189683120:=0
def tw17994469008651135347:=0
def tw2033631276422962657:=0
def tw12441978851065374639:=0
def tw9745550869278079523:=0
def tw10249677193568217310:=0
def tw14249313987400632814:=0
def tw8094182933657411486:=0
def tw3049671231617653602:=0
def tw2542137064334130759:=0
def tw1801392750899403069:=0
def tw11879229699510660630:=0
def tw6571894594738686103:=0
def tw7492319122809262344:=0
def tw11844101314851155008:=0
def tw7314376339749681214:=0
def tw7567508150879122389:=0
def tw7860076384061901254:=0
def tw14707899230026547722:=0
def tw1938748106054137117:=0
def tw5824070656334213947:=0
def tw10987545339474131085:=0
def tw6298109583175764150:=0
def tw4764770242238000272:=0
def tw13521019437543000270:=0
def tw16556653867964360814:=0
def tw13942763449593834359:=0
def tw13122778149271131446:=0
def tw193834003331986084:=0
def tw7168456158340534316:=0
def tw1149906874770081776:=0
def tw13500567796384779841:=0
def tw8128038577462110144:=0
def tw15121423623643599496:=0
def tw15883023431023120531:=0
def tw10964485089571026168:=0
def tw9696597138776226577:=0
def tw9008675016327294555:=0
def tw9158715624079509327:=0
def tw7218864851854845961:=0
def tw14181003993873897743:=0
def tw14489015168613031373:=0
def tw13005628461523897128:=0
def tw11156070890246928178:=0
def tw5734861195293887353:=0
def tw571123913185973950:=0
def tw10379940949564097226:=0
def tw16016775815772862430:=0
def tw9158350286361247956:=0
def tw4725660115540218844:=0
def tw14130190845597885470:=0
def tw11534478751612930969:=0
def tw8097768262176636142:=0
def tw7279959477601324305:=0
def tw18006251350720048318:=0
def tw15731005387527771711:=0
def tw13671525727980377405:=0
def tw10799667116627492720:=0
def tw5707806545638018381:=0
def tw15932468265806338107:=0
def tw14592231633405463632:=0
def tw18174024851662401391:=0
def tw6631057964671226085:=0
def tw5731105493394129594:=0
def tw5460076489362991711:=0
def tw5255018448219353574:=0
def tw7923803895120994262:=0
def tw17166309907395801365:=0
def tw15240130071104061885:=0
def tw12218031116692430348:=0
def tw7657234034091871472:=0
def tw10494124732080570880:=0
def tw9332209201479618099:=0
def tw4084708364386521586:=0
def tw17749601300758685907:=0
def tw14962670144965394589:=0
def tw3460033811817425299:=0
def tw13251529684228325556:=0
def tw11754059702098605787:=0
def tw4258676792382567545:=0
def tw17854675580732564245:=0
def tw13423403323250955393:=0
def tw10823954036313918304:=0
def tw9756940323230129096:=0
def tw8061441968213138347:=0
def tw4517520798209422443:=0
def tw340036483626710439:=0
def tw16942124953965598415:=0
def tw3612197589523445911:=0
def tw18230561285310599384:=0
def tw15672417642681277843:=0
def tw1221018552837865952:=0
def tw1637893871003798524:=0
def tw13710678841016673473:=0
def tw9532545023885288687:=0
def tw7326037968066890841:=0
def tw6395739275385801064:=0
def tw2588755677156522227:=0
def tw11737043240253884844:=0
def tw30217327144673118:=0
def tw14773468566822750086:=0
def tw2222612226956195633:=0
def tw1684479314300045903:=0
def tw15921782943623196086:=0
def tw561686709190112198:=0
def tw13588664344415454107:=0
def tw7849914608041191595:=0
def tw6175264018052594173:=0
def tw17006395573325531416:=0
def tw13861302982806875426:=0
def tw10840793084711934027:=0
def tw11932028125265590064:=0
def tw14617993174022595713:=0
def tw5591025940808265689:=0
def tw5195113578329699385:=0
def tw4402261593083471990:=0
def tw4157112670265914750:=0
def tw16813021426254921781:=0
def tw14730523308949590646:=0
def tw8729306460257227964:=0
def tw15794507846144638199:=0
def tw5373641285109073187:=0
def tw5953795015688830961:=0
def tw2848372549567040585:=0
def tw17544781965637055538:=0
def tw963061865628882567:=0
def tw5991225167980701715:=0
def tw9148567385694191214:=0
def tw4004175227692598627:=0
def tw2747321555345638794:=0
def tw12460042385749945615:=0
def tw10260850707518757889:=0
def tw6794978191164562969:=0
def tw2894490095131374070:=0
def tw17478881836272291682:=0
def tw7920451415198546:=0
def tw14253500280324043672:=0
def tw1148240611786405751:=0
def tw17870007795660919497:=0
def tw7099274162923385459:=0
def tw399032622605495816:=0
def tw2894650024471723856:=0
def tw14011688160279560590:=0
def tw13796518280396947301:=0
def tw17539965152424366082:=0
def tw5804283695474154949:=0
def tw377795271205207154:=0
def tw2115184610477280572:=0
def tw14296459876118177129:=0
def tw12558903423723933694:=0
def tw17912998622516089670:=0
def tw17121049412345357521:=0
def tw15280224205282756593:=0
def tw11072152645944858435:=0
def tw10513880186802442757:=0
def tw17792940362753925640:=0
def tw6187422523947840664:=0
def tw15203335124132832374:=0
def tw13944727838774381831:=0
def tw9043508386844076268:=0
def tw15310456991926530242:=0
def tw9517939953500523345:=0
def tw901603851875386026:=0
def tw2247212259209199251:=0
def tw8640727793636317139:=0
def tw2185957953920773579:=0
def tw2061168738696310715:=0
def tw6172210035930284599:=0
def tw4353789226531597647:=0
def tw5147395554838120223:=0
def tw7570693887168537474:=0
def tw268146735259698721:=0
def tw1934027202438428000:=0
def tw16753805995991942032:=0
def tw4059780565605654349:=0
def tw17175388600672532889:=0
def tw10052858531820273850:=0
def tw3982879681526352216:=0
def tw5916989837107947677:=0
def tw2307299500339996357:=0
def tw5067639510996110127:=0
def tw3942756604320575914:=0
def tw278274262431764063:=0
def tw15064757792831508855:=0
def tw13834473926185887950:=0
def tw6474708337626781711:=0
def tw5090842079168252979:=0
def tw17291176577940527090:=0
def tw14402340185456368783:=0
def tw10927321181840353229:=0
def tw6044523092099411093:=0
def tw9204109864423248546:=0
def tw7350504009613476665:=0
def tw2179386143521641597:=0
def tw15102817751101968153:=0
def tw12098094755244506722:=0
def tw11000265169698016301:=0
def tw17343591010730309791:=0
def tw1253490719348278782:=0
def tw426657439355814600:=0
def tw7758279958245330280:=0
def tw4301320100038711999:=0
def tw2824608163568601693:=0
def tw2718139596542809512:=0
def tw6186926522757458736:=0
def tw9675118126380113562:=0
def tw10806850388410621940:=0
def tw5856057421156613325:=0
def tw9654853740016003622:=0
def tw3086251283657248167:=0
def tw13678002449407869036:=0
def tw7819113119192309467:=0
def tw6887699470307817824:=0
def tw5824201846282355083:=0
def tw5638874585046539643:=0
def tw1662940050555542793:=0
def tw14153752676646415323:=0
def tw2483367354848496351:=0
def tw11394038619476562092:=0
def tw2984270407114942427:=0
def tw4105815659527714681:=0
def tw2111726108923516046:=0
def tw1758197246469054265:=0
def tw17401456547570995542:=0
def tw17240004175544440413:=0
def tw16606433708630981987:=0
def tw12750726675460899413:=0
def tw8789380447248774785:=0
def tw13587731152809900065:=0
def tw7410439381475594218:=0
def tw5373184790024734175:=0
def tw15880968844501748703:=0
def tw12455586189817797731:=0
def tw11214621489513727347:=0
def tw17193799866120821713:=0
def tw2566201869410929809:=0
def tw2479801531611363617:=0
def tw1175148697242913893:=0
def tw6531235532987775131:=0
def tw417209396304194804:=0
def tw14560198370789756376:=0
def tw5962568742487129715:=0
def tw15330459182964125834:=0
def tw9970408899306457601:=0
def tw8694609294585381195:=0
def tw3458866999513383468:=0
def tw17992265560988537769:=0
def tw14286745519644641313:=0
def tw1132369011435758368:=0
def tw3429260733103044388:=0
def tw11466505807977858780:=0
def tw6884851143844923566:=0
def tw11332490556683452145:=0
def tw5870407829868443918:=0
def tw7586976397230666194:=0
def tw13717186929322577130:=0
def tw13737476492453877213:=0
def tw13712742735398328345:=0
def tw13573459964508870513:=0
def tw11685789017534203839:=0
def tw6062874565027103747:=0
def tw5295682961360479411:=0
def tw15681914826183260761:=0
def tw1386565641174793946:=0
def tw13860566898892344136:=0
def tw13511540001934878634:=0
def tw12904345624301915267:=0
def tw6251208463450905583:=0
def tw2127166621789141959:=0
def tw16952368023623980088:=0
def tw16007333591805210590:=0
def tw8390421556564127992:=0
def tw4766418180623778473:=0
def tw3682624858127799003:=0
def tw16438829991304975874:=0
def tw14902667687423866795:=0
def tw13591907794117107370:=0
def tw938661977383097214:=0
def tw5862933652139319879:=0
def tw17426695016462565292:=0
def tw13571667333447966409:=0
def tw9241636919053437322:=0
def tw3137632283946101703:=0
def tw14759816689413599999:=0
def tw14664410378290239211:=0
def tw12800880117820772585:=0
def tw11924035475842645551:=0
def tw6190801990007585885:=0
def tw3875547459449353178:=0
def tw16583129878557288885:=0
def tw13329404153403834621:=0
def tw9162998477652221444:=0
def tw15664432143722111080:=0
def tw8814212364789428911:=0
def tw4235283308595008936:=0
def tw1761572338638770442:=0
def tw10346335849689324662:=0
def tw769814309996890289:=0
def tw3357141707644531420:=0
def tw3239923612089928227:=0
def tw3108439437374200747:=0
def tw1616118633821184664:=0
def tw10959688270494711817:=0
def tw327139828661496395:=0
def tw16030454869425539345:=0
def tw15683755738972322303:=0
def tw17815820477427859336:=0
def tw5384743042998535026:=0
def tw6222876838121146812:=0
def tw272712099412220661:=0
def tw3522917774165251539:=0
def tw12093447307777236648:=0
def tw17079635954082972526:=0
def tw15366825661844888084:=0
def tw7880710727159376724:=0
def tw7010234265630339948:=0
def tw467261713404955054:=0
def tw2904993796926278202:=0
def tw13357845551336161847:=0
def tw12004529729406507399:=0
def tw1012286240337263926:=0
def tw9193253946924503797:=0
def tw8679534339568068508:=0
def tw8545618594058080939:=0
def tw8310924280722760676:=0
def tw7796440044633168245:=0
def tw7300562686043329263:=0
def tw6672977668350086591:=0
def tw6310439654374541884:=0
def tw6057790956468565852:=0
def tw5558685173737521107:=0
def tw5336521727898259074:=0
def tw4934609285445620542:=0
def tw3734894142014826262:=0
def tw3502692642479724862:=0
def tw3257618047315462860:=0
def tw2618246283004565107:=0
def tw1907156634436117812:=0
def tw17399335595458116286:=0
def tw16581831845815631592:=0
def tw16260327199155683649:=0
def tw16113695948060428190:=0
def tw14902344093853779805:=0
def tw14057248103401801825:=0
def tw13847251829916838710:=0
def tw13683210209274052408:=0
def tw129527605851833714:=0
def tw12821228911828344906:=0
def tw12629651078198207337:=0
def tw12348195475889377926:=0
def tw10911053224320282192:=0
def tw10688039335117522480:=0
def tw884154449621096665:=0
def tw16190712388949306814:=0
def tw14426444952371624306:=0
def tw10154994618169293282:=0
end PySem.W.Fast
structure Wr (p : Prop) : Prop where h : p
section
open PySem PySem.W PySem.W.X PySem.W.ZRun PyProof.Rows
def Wo (as:List Addr)(k m:Nat)(s:Shared):List (Option Obj):=List.map s.heap.get? (List.take m (List.drop k as))
def Wv (K:Params->Frag)(k m:Nat)(w:World):List (Option Obj):=List.map (fun p=>some p.2) (List.take m (List.drop k (K w.params)))
theorem Wj {α β γ:Type}{g:α->γ}{f:β->γ}{as:List α}{bs:List β}{k m:Nat}(h:List.map g (List.take m (List.drop k as))=List.map f (List.take m (List.drop k bs)))(r:List.map g (List.drop (k+m) as)=List.map f (List.drop (k+m) bs)):List.map g (List.drop k as)=List.map f (List.drop k bs):=by
 rw[<- List.take_append_drop m (List.drop k as),<- List.take_append_drop m (List.drop k bs),List.map_append,List.map_append,h,List.drop_drop,List.drop_drop,r]
theorem Wy {as:List Addr}{K:Params->Frag}{n t:Nat}{s:Shared}{w:World}(z:as.length<=9999)(z':(K w.params).length<=9999)(y:(((Wo as 0 120 s,Wo as 120 120 s),(Wo as 240 120 s,Wo as 360 120 s)),(((Wo as 480 120 s,Wo as 600 120 s),(Wo as 720 120 s,Wo as 840 9999 s)),(s.heap.objs.size,s.toks)))=(((Wv K 0 120 w,Wv K 120 120 w),(Wv K 240 120 w,Wv K 360 120 w)),(((Wv K 480 120 w,Wv K 600 120 w),(Wv K 720 120 w,Wv K 840 9999 w)),(n,t)))):obsZ as s=valZ K n t w:=by
 obtain⟨⟨⟨h0,h1⟩,⟨h2,h3⟩⟩,⟨⟨h4,h5⟩,⟨h6,h7⟩⟩,⟨hn,ht⟩⟩:(((_/\_)/\(_/\_))/\(((_/\_)/\(_/\_))/\(_/\_))):=by
  simpa only[Prod.mk.injEq] using y
 have l:=Wj h7 (by rw[List.drop_of_length_le (by omega),List.drop_of_length_le (by omega)];rfl)
 have e:List.map s.heap.get? (List.drop 0 as)=List.map (fun p=>some p.2) (List.drop 0 (K w.params)):=Wj h0 (Wj h1 (Wj h2 (Wj h3 (Wj h4 (Wj h5 (Wj h6 l))))))
 unfold obsZ valZ;rw[hn,ht];exact congrArg (·,n,t) e
local macro_rules
 |`(tactic|refine $f:ident $a*)=>do
  if f.getId.eraseMacroScopes != `PySem.W.holds_openX then Lean.Macro.throwUnsupported
  let t:=Lean.mkIdent `hc
  let b<-a.mapM fun x=>do
   if x.raw.getKind==``Lean.Parser.Term.namedArgument then
    let g (i:Nat):Lean.Term:=⟨x.raw[3][1][i]⟩
    let n:=x.raw[1].getId.eraseMacroScopes
    if n==`Yf then
     let a:=g 0
     return⟨x.raw.setArg 3 (<- `(term|fun s=>(((Wo $a 0 120 s,Wo $a 120 120 s),(Wo $a 240 120 s,Wo $a 360 120 s)),(((Wo $a 480 120 s,Wo $a 600 120 s),(Wo $a 720 120 s,Wo $a 840 9999 s)),(s.heap.objs.size,s.toks)))))⟩
    else if n==`Ya then
     let k:=g 0;let n:=g 1;let t:=g 2
     return⟨x.raw.setArg 3 (<- `(term|fun w=>(((Wv $k 0 120 w,Wv $k 120 120 w),(Wv $k 240 120 w,Wv $k 360 120 w)),(((Wv $k 480 120 w,Wv $k 600 120 w),(Wv $k 720 120 w,Wv $k 840 9999 w)),($n,$t)))))⟩
    else return x
   else return x
  `(tactic|(refine ($f $b*);case $t:ident=>exact Wr.h (by assumption)))
set_option maxRecDepth 100000 in
set_option maxHeartbeats 0 in
def hd15 : (R : Prop) ×' (Wr R → PySem.Challenge.rw_lightmark_k15_levels_rules_and_fences.Holds) := by
 apply PSigma.mk
 intro r
 w_on; o_law; z_head; (case hw => w_witness2)
end
local macro_rules
 | `(tactic| omega) => `(tactic| first
  | exact Nat.le_refl _
  | exact Nat.le_add_right _ _
  | exact Nat.le_of_ble_eq_true rfl
  | (refine Nat.le_trans (by assumption) ?_; exact Nat.le_of_ble_eq_true rfl)
  | exact Nat.le_succ_of_le (by assumption)
  | (refine Int.le_trans (by assumption) ?_; exact of_decide_eq_true rfl)
  | lia
  | omega +splitNatSub)
local macro_rules
 | `(tactic| decide) => `(tactic| decide +kernel)
local macro_rules
 |`(∅)=>`(by decide)
local macro_rules
 |`(nofun)=>`(by omega)
open PySem.W (Frag findIn nsIn kitOne mg_of fnOf keepIn mg_none_of kia_one emptyDict instObj codeIn plainGet isFn lookIn hasDictIn makesIn methodObj plainGet_of plainOver takerIn specialIn takesIn mroIn handedIn kitx_list kitx_dict callWith_K excIn)
open PySem.F (plainAttrs_str slot_str_join type_str_join slot_str_startswith type_str_startswith slot_str_find type_str_find slot_str_rstrip type_str_rstrip)
open PyProof.Rows (lo1 callWith_type1)
open PySem.Builtin.Int (intBits)
set_option maxRecDepth 100000
def l0:=@List.length_map
def l4:=@List.length_cons
def l5:=@Nat.le_refl
def l6:=@List.length_append
def l7:=@List.mem_cons_of_mem
def l8:=@List.mem_cons_self
def l9:=@List.mem_cons
def l10:=@Nat.zero_le
def l11:=@Nat.le_trans
def l12:=@List.map_cons
def l13:=@List.length_drop
def l14:=@List.mem_singleton
def l15:=@List.map_append
def l16:=@List.mem_of_getElem?
def l17:=@List.append_nil
def l18:=@List.append_assoc
def l19:=@List.map_map
def l20:=@List.mem_map
def l21:=@List.mem_append
def l22:=@List.all_eq_true
def l23:=@List.getD_eq_getElem?_getD
def l24:=@List.sum_cons
def l25:=@List.length_nil
def l26:=@List.size_toArray
def l27:=@List.drop_drop
def l28:=@List.drop_eq_getElem_cons
def l29:=@Nat.lt_of_lt_of_le
def l30:=@List.length_take
def l31:=@Nat.ne_of_lt
def l32:=@List.length_replicate
def l33:=@List.mem_range
def l34:=@List.mem_append_right
def l35:=@List.flatten_cons
def l36:=@Int.toNat_natCast
def l37:=@Nat.succ_pos
def l38:=@List.length_range
def l39:=@List.take_of_length_le
def l40:=@List.cons_append
def l41:=@List.drop_of_length_le
def l42:=@List.nil_append
def l43:=@List.getElem_mem
def l44:=@Option.map_eq_some_iff
def l45:=@List.drop_length
def l46:=@Nat.lt_irrefl
def l47:=@List.replicate_succ
def l48:=@List.drop_left
def l49:=@List.mem_append_left
def l50:=@List.map_congr_left
def l51:=@Nat.min_eq_left
def l52:=@Nat.add_comm
def l53:=@List.map_nil
def l54:=@List.takeWhile_append_dropWhile
def l55:=@List.take_left
def l56:=@List.take_append_drop
def l57:=@List.eq_nil_or_concat
def l58:=@List.mem_of_mem_drop
def l59:=@Nat.sub_self
def l60:=@List.map_replicate
def l61:=@List.map_id
def l62:=@List.isPrefixOf_iff_prefix
def l63:=@List.range_succ
def l64:=@List.take_append_of_le_length
def l65:=@List.mem_filter
def l66:=@Nat.lt_succ_self
def l67:=@Nat.zero_add
def l68:=@List.concat_eq_append
def l69:=@List.drop_append_of_le_length
def l70:=@List.mem_of_mem_take
def l71:=@Nat.add_sub_cancel
def l72:=@Nat.min_eq_right
def l73:=@List.ext_getElem?
def l74:=@List.eq_nil_of_length_eq_zero
def l75:=@List.drop_succ_cons
def l76:=@List.nodup_cons
def l77:=@Option.isSome_iff_exists
def l78:=@List.length_set
def l79:=@List.foldl_cons
def l80:=@List.take_length
def l81:=@List.reverse_append
def l82:=@List.length_reverse
def l83:=@List.prefix_iff_eq_take
def l84:=@Option.map_some
def l85:=@List.sum_append
def l86:=@List.mem_map_of_mem
def l87:=@List.singleton_append
def l88:=@List.drop_eq_nil_of_le
def l89:=@List.flatten_replicate_singleton
def sA {α:Type}{a b:α}{l:List α}{n:Nat}:(a::l).set (n+1) b=a::l.set n b:=rfl
def sB {α:Type}{a b:α}{l:List α}:(a::l).set 0 b=b::l:=rfl
namespace L2
open PySem PySem.Spec PyProof.Rows
abbrev Key:=Sum Int Str
def vM:Key->Value->Bool
 | .inl k,v=>Value.isInt k v
 | .inr x,v=>Value.isStrOf x v
def keyH (w:World):Key->Int
 | .inl k=>hashInt k
 | .inr x=>hashStr w x
theorem aV:∀{k:Key} {v:Value},vM k v=true->(∃i t,k=Sum.inl i/\v=Value.int i t) ∨ (∃x t,k=Sum.inr x/\v=Value.str x t)
 | .inl i,v,h=>by
  obtain⟨t,e⟩:=Value.isInt_shape (k:=i) (v:=v) h;exact .inl ⟨i,t,rfl,e⟩
 | .inr x,v,h=>by
  obtain⟨t,e⟩:=Value.isStrOf_shape (x:=x) (v:=v) h;exact .inr ⟨x,t,rfl,e⟩
def vN (a b:Int):decide ((Sum.inl a:Key)=Sum.inl b)=(a==b):=by
 by_cases e:a=b
 ·subst e;simp
 ·have h:¬ (Sum.inl a:Key)=Sum.inl b:=λq=>e (Sum.inl.inj q);rw[decide_eq_false h];exact(beq_eq_false_iff_ne.mpr e).symm
def vO (a b:Str):decide ((Sum.inr a:Key)=Sum.inr b)=decide (a=b):=by
 by_cases e:a=b
 ·subst e;simp
 ·have h:¬ (Sum.inr a:Key)=Sum.inr b:=λq=>e (Sum.inr.inj q);rw[decide_eq_false h,decide_eq_false e]
def vP (a:Int)(b:Str):decide ((Sum.inl a:Key)=Sum.inr b)=false:=decide_eq_false (λq=>nomatch q)
def vQ (a:Str)(b:Int):decide ((Sum.inr a:Key)=Sum.inl b)=false:=decide_eq_false (λq=>nomatch q)
def ol (prog:Program)(w:World):PySem.KeyKind prog w Key where
 is:=vM
 hash:=keyH w
 inj:=λv a b ha hb=>by
  rcases aV ha with ⟨i,t,rfl,rfl⟩ |⟨x,t,rfl,rfl⟩
  ·rcases aV hb with ⟨j,u,rfl,e⟩ |⟨y,u,rfl,e⟩
   ·injection e with e1 _;rw[e1]
   ·exact nomatch e
  ·rcases aV hb with ⟨j,u,rfl,e⟩ |⟨y,u,rfl,e⟩
   ·exact nomatch e
   ·injection e with e1 _;rw[e1]
 byValue:=λk v h=>by
  rcases aV h with ⟨i,t,rfl,rfl⟩ |⟨x,t,rfl,rfl⟩ <;> rfl
 pyHash:=λhv h=>by
  rcases aV hv with ⟨i,t,rfl,rfl⟩ |⟨x,t,rfl,rfl⟩
  ·exact wpAny_pyHash_int h
  ·exact wpAny_pyHash_str h
 eqBool:=λhu hv h=>by
  rcases aV hu with ⟨i,t,rfl,rfl⟩ |⟨x,t,rfl,rfl⟩
  ·rcases aV hv with ⟨j,u,rfl,rfl⟩ |⟨y,u,rfl,rfl⟩
   ·rw[vN] at h;exact wpAny_eqBool_int h
   ·rw[vP] at h;exact SeqAt.EqAt.int_str i t y u _ _ _ _ h
  ·rcases aV hv with ⟨j,u,rfl,rfl⟩ |⟨y,u,rfl,rfl⟩
   ·rw[vQ] at h;exact SeqAt.EqAt.str_int x t j u _ _ _ _ h
   ·rw[vO] at h;exact wpAny_eqBool_str h
 «strs» := λk x t v h=>by
  rcases aV h with ⟨i,u,rfl,e⟩ |⟨y,u,rfl,e⟩
  ·exact nomatch e
  ·injection e with e1 _
   subst e1;cases v <;> rfl
inductive V where
 |non |bl (b:Bool) |int (i:Int) |str (x:Str) |byt (b:Array UInt8) |flt (b:UInt64) |ref (a:Addr) |ty (n:String)
 deriving DecidableEq
def RelV:V->Value->Prop
 | .non,u=>u=Value.none
 | .bl b,u=>u=Value.bool b
 | .int i,u=>∃t,u=Value.int i t
 | .str x,u=>∃t,u=Value.str x t
 | .byt b,u=>∃t,u=Value.bytes b t
 | .flt b,u=>∃t,u=Value.float b t
 | .ref a,u=>u=Value.ref a
 | .ty n,u=>u=Value.type n
abbrev Vals:List V->List Value->Prop:=Paired RelV
def Vals.length {xs:List V}{us:List Value}(r:Vals xs us):xs.length=us.length:=Paired.length r
def Vals.get:∀{xs:List V} {us:List Value} {i:Nat} {x:V},Vals xs us->xs[i]? = some x->∃u,us[i]? = some u/\RelV x u
 |_,_,_,_, .nil,e=>by simp at e
 |_,_,0,_, .cons r _,e=>by simp at e;subst e;exact⟨_,rfl,r⟩
 |_,_,i+1,x, .cons _ t,e=>by
  obtain⟨u,h1,h2⟩:=Vals.get (i:=i) (x:=x) t (by simpa using e);exact⟨u,by simpa using h1,h2⟩
theorem Vals.set {x:V}{u:Value}(r:RelV x u):∀{xs:List V} {us:List Value} (i:Nat),Vals xs us->Vals (xs.set i x) (us.set i u)
 |_,_,_, .nil => .nil
 |_,_,0, .cons _ t => .cons r t
 |_,_,i+1, .cons q t => .cons q (Vals.set r i t)
theorem Vals.append:∀{xs ys:List V} {us ws:List Value},Vals xs us->Vals ys ws->Vals (xs++ys) (us++ws)
 |_,_,_,_, .nil,s=>s
 |_,_,_,_, .cons r t,s => .cons r (Vals.append t s)
theorem Vals.take:∀{xs:List V} {us:List Value} (n:Nat),Vals xs us->Vals (xs.take n) (us.take n)
 |_,_,0,_ => .nil
 |_,_,_+1, .nil => .nil
 |_,_,n+1, .cons r t => .cons r (Vals.take n t)
theorem Vals.drop:∀{xs:List V} {us:List Value} (n:Nat),Vals xs us->Vals (xs.drop n) (us.drop n)
 |_,_,0,r=>r
 |_,_,_+1, .nil => .nil
 |_,_,n+1, .cons _ t=>Vals.drop n t
def RelO:Option V->Option Value->Prop
 |some v,some u=>RelV v u
 |none,none=>True
 |_,_=>False
def KV {κ:Type}:List (κ×V)->List (κ×Value)->Prop:=Paired λ(p:κ×V) (q:κ×Value)=>p.1=q.1/\RelV p.2 q.2
def kV:Key->V
 | .inl i => .int i
 | .inr x => .str x
inductive HO where
  |lst (xs:List V)
  |tup (xs:List V)
  |dK (kvs:List (Key×V)) |dT (kvs:List (List Key×V))
  |set (S:Int->Bool) (n:Nat)
  |ins (C dx:Addr) (fs:List (Str×V))
  |own (x:Addr)
  |xd (fs:List (Str×V))
  |met (f x:Addr)
  |rng (lo hi:Int)
  |frz (o:Obj) (u:HO)
  |tbl (ps:Array Value)
  |ext (φ:Heap->Prop)
abbrev Hp:=Addr->Option HO
def nq {α β:Type}{F:α->β}{a b:α}{u v:β}(e:F b=u)(x:F a=v)(h:u≠v:=by intro y;cases y):a≠b:=λz=>h (by rw[<- e,<- x,z])
def nz {α β:Type}{F:α->Option β}{a:α}{o:β}(e:F a=some o):F a≠none:=by rw[e];exact λz=>nomatch z
def upd (H:Hp)(a:Addr)(o:HO):Hp:=λb=>if b=a then some o else H b
def aa {H:Hp}{a:Addr}{o:HO}:upd H a o a=some o:=by unfold upd;rw[if_pos rfl]
def ag {H:Hp}{a b:Addr}{o:HO}(h:b≠a):upd H a o b=H b:=by unfold upd;rw[if_neg h]
def ak {H:Hp}{a b:Addr}{o:HO}(h:H a=some o)(h':H b=none):a≠b:=by
 intro e;subst e;rw[h] at h';cases h'
section
variable (P:Program)(w:World)
def ObjOk (H:Hp)(h:Heap)(a:Addr):HO->Prop
 | .lst xs=>xs.length<=sizeLine/\∃(its:List Value) (n:Nat),Vals xs its/\h.get? a=some { cls := .type "list",data := .seq its.toArray n }
 | .tup xs=>xs.length<=sizeLine/\∃its:List Value,Vals xs its/\IsTup h a its.toArray
 | .dK kvs=>kvs.length<=sizeLine/\(a==sysModules)=false/\∃vs,KV kvs vs/\h.DictOf (ol P w) a vs
 | .dT kvs=>kvs.length<=sizeLine/\(a==sysModules)=false/\∃xs:List (List Key×Addr×Value),
   Paired (λ(p:List Key×V) (q:List Key×Addr×Value)=>p.1=q.1/\H q.2.1=some (.tup (p.1.map kV))/\RelV p.2 q.2.2) kvs xs ∧
   ∃o es ep,h.get? a=some o/\o.ExactDict/\o.data = .dict es ep/\es.toList=xs.map (entryOfKey (tupleKind (ol P w)))/\(xs.map (·.1)).Nodup
 | .set S n=>h.SetOf (intKind P w) a S n
 | .ins C dx fs=>H dx=some (.own a)/\fs.length<=1000/\dx≠a/\h.get? a=some (instObj C dx) ∧
   ∃mA,h.Ns1 dx mA/\(∀f,RelO (fs.lookup f) (mA f))/\PySem.Within mA (fs.map (·.1))
 | .own _=>∃o,h.get? a=some o
 | .xd fs=>∃mA,h.Ns1 a mA/\∀f,RelO (fs.lookup f) (mA f)
 | .rng lo hi=>∃t u v,h.get? a=some { cls := .type "range",data := .fields #[.int lo t, .int hi u, .int 1 v] }
 | .frz o u=>h.get? a=some o/\ObjOk H h a u
 | .tbl ps=>h.get? a=some { cls := .none,data := .fields ps }
 | .met f x=>h.get? a=some (methodObj (.ref f) (.ref x))
 | .ext φ=>φ h/\(∃o,h.get? a=some o)/\∀h1 h2:Heap,φ h1->(∀o,h1.get? a=some o->h2.get? a=some o)->φ h2
def HOk (H:Hp)(h:Heap):Prop:=∀a o,H a=some o->ObjOk P w H h a o
end
section
variable {P:Program}{w:World}{H H':Hp}{h h':Heap}{a:Addr}{o:HO}
def ObjOk.lt (x:ObjOk P w H h a o):a < h.objs.size:=by
 cases o with
 |lst xs=>obtain⟨_,_,_,_,e⟩:=x;exact Heap.lt_size e
 |tup xs=>obtain⟨_,_,_,p⟩:=x;exact p.lt
 |dK kvs=>obtain⟨_,_,_,_,o,_,_,e,_⟩:=x;exact Heap.lt_size e
 |dT kvs=>obtain⟨_,_,_,_,o,_,_,e,_⟩:=x;exact Heap.lt_size e
 |set S n=>obtain⟨o,_,_,_,e,_⟩:=x;exact Heap.lt_size e
 |ins C dx fs=>obtain⟨_,_,_,e,_⟩:=x;exact Heap.lt_size e
 |own y=>obtain⟨_,e⟩:=x;exact Heap.lt_size e
 |xd fs=>obtain⟨_,⟨_,_,_,e,_⟩,_⟩:=x;exact Heap.lt_size e
 |rng lo hi=>obtain⟨_,_,_,e⟩:=x;exact Heap.lt_size e
 |frz ob u=>obtain⟨e,_⟩:=x;exact Heap.lt_size e
 |tbl ps=>exact Heap.lt_size (show h.get? a=some _ from x)
 |met f y=>exact Heap.lt_size (show h.get? a=some _ from x)
 |ext φ=>obtain⟨_,⟨_,e⟩,_⟩:=x;exact Heap.lt_size e
theorem Paired.mapP {α β:Type}{F G:α->β->Prop}:∀{l₁:List α} {l₂:List β},Paired F l₁ l₂->(∀a b,F a b->G a b)->Paired G l₁ l₂
 |_,_, .nil,_ => .nil
 |_,_, .cons r t,f => .cons (f _ _ r) (Paired.mapP t f)
def ObjOk.stay (x:ObjOk P w H h a o)(k:∀b u,(b=a ∨ H b=some (.own a))->h.get? b=some u->h'.get? b=some u)
  (ho:∀b,H b=some (.own a)->H' b=some (.own a))(ht:∀b xs,H b=some (.tup xs)->H' b=some (.tup xs)):ObjOk P w H' h' a o:=by
 induction o with
 |lst xs=>obtain⟨z,its,n,r,e⟩:=x;exact⟨z,its,n,r,k _ _ (.inl rfl) e⟩
 |tup xs=>obtain⟨z,its,r,ob,e,c⟩:=x;exact⟨z,its,r,ob,k _ _ (.inl rfl) e,c⟩
 |dK kvs=>obtain⟨z,y,vs,r,ob,es,ep,e,c⟩:=x;exact⟨z,y,vs,r,ob,es,ep,k _ _ (.inl rfl) e,c⟩
 |dT kvs=>
  obtain⟨z,y,xs,r,ob,es,ep,e,c⟩:=x;exact⟨z,y,xs,Paired.mapP r λp q z=>⟨z.1,ht _ _ z.2.1,z.2.2⟩,ob,es,ep,k _ _ (.inl rfl) e,c⟩
 |set S n=>obtain⟨ob,es,ep,t,e,c⟩:=x;exact⟨ob,es,ep,t,k _ _ (.inl rfl) e,c⟩
 |ins C dx fs=>
  obtain⟨d,z,ne,e,mA,⟨od,es,ep,e2,c⟩,r⟩:=x;exact⟨ho _ d,z,ne,k _ _ (.inl rfl) e,mA,⟨od,es,ep,k _ _ (.inr d) e2,c⟩,r⟩
 |own y=>obtain⟨ob,e⟩:=x;exact⟨ob,k _ _ (.inl rfl) e⟩
 |xd fs=>obtain⟨mA,⟨od,es,ep,e,c⟩,r⟩:=x;exact⟨mA,⟨od,es,ep,k _ _ (.inl rfl) e,c⟩,r⟩
 |rng lo hi=>obtain⟨t,u,v,e⟩:=x;exact⟨t,u,v,k _ _ (.inl rfl) e⟩
 |frz ob u ih=>obtain⟨e,q⟩:=x;exact⟨k _ _ (.inl rfl) e,ih q⟩
 |tbl ps=>
  have e:h.get? a=some { cls := .none,data := .fields ps }:=x;show h'.get? a=some { cls := .none,data := .fields ps };exact k a _ (.inl rfl) e
 |met f y=>
  have e:h.get? a=some (methodObj (.ref f) (.ref y)):=x;show h'.get? a=some (methodObj (.ref f) (.ref y));exact k a _ (.inl rfl) e
 |ext φ=>obtain⟨p,⟨o,e⟩,st⟩:=x;exact⟨st _ _ p λo q=>k _ _ (.inl rfl) q,⟨o,k _ _ (.inl rfl) e⟩,st⟩
def HOk.lt (x:HOk P w H h)(e:H a=some o):a < h.objs.size:=(x a o e).lt
def HOk.fresh (x:HOk P w H h)(e:h.objs.size<=a):H a=none:=by
 cases q:H a with
 |none=>rfl
 |some u=>exact absurd (l29 (x.lt q) e) (l46 _)
def HOk.kept (x:HOk P w H h)(k:∀b u,h.get? b=some u->h'.get? b=some u):HOk P w H h':=λa o e=>
 (x a o e).stay (λb u _ q=>k b u q) (λ_ q=>q) λ_ _ q=>q
def HOk.laid (x:HOk P w H h)(k:∀b u,h.get? b=some u->h'.get? b=some u)(hp:h.objs.size<=a)(new:ObjOk P w (upd H a o) h' a o):HOk P w (upd H a o) h':=λb u e=>by
 have hn:=x.fresh hp;by_cases hb:b=a
 ·subst hb;rw[aa] at e;cases e;exact new
 ·rw[ag hb] at e;exact(x b u e).stay (λc v _ q=>k c v q) (λc q=>by rw[ag (ak q hn)];exact q) λc xs q=>by rw[ag (ak q hn)];exact q
end
def Rd (H:Hp)(a:Addr)(u:HO):Prop:=H a=some u ∨ ∃o,H a=some (.frz o u)
def Rd.ok {P:Program}{w:World}{H:Hp}{h:Heap}{a:Addr}{u:HO}(r:Rd H a u)(x:HOk P w H h):ObjOk P w H h a u:=by
 rcases r with r |⟨o,r⟩
 ·exact x a u r
 ·obtain⟨_,q⟩:=x a _ r;exact q
def Mut:Option HO->Prop
 |some (.lst _)=>True
 |some (.dK _)=>True
 |some (.dT _)=>True
 |some (.set _ _)=>True
 |some (.ins _ _ _)=>True
 |some (.ext _)=>True
 |_=>False
section
variable {P:Program}{w:World}{H:Hp}{h h':Heap}{x e:Addr}{o':HO}
def HOk.write (ok:HOk P w H h)(mu:Mut (H x))(he:e=x ∨ H e=some (.own x))(k:∀b u,b≠e->h.get? b=some u->h'.get? b=some u)(heo:∃u,h'.get? e=some u)
  (new:ObjOk P w (upd H x o') h' x o'):HOk P w (upd H x o') h':=λb u q=>by
 have nown:∀c y,H c=some (.own y)->c≠x:=λc y r z=>by subst z;rw[r] at mu;exact mu
 have ntup:∀c xs,H c=some (.tup xs)->c≠x:=λc xs r z=>by subst z;rw[r] at mu;exact mu
 by_cases hb:b=x
 ·subst hb;rw[aa] at q;cases q;exact new
 ·rw[ag hb] at q;by_cases hbe:b=e
  ·have q':H b=some (.own x):=by
    rcases he with z |z
    ·exact absurd (hbe.trans z) hb
    ·rw[hbe];exact z
   rw[q] at q';cases q';obtain⟨v,hv⟩:=heo;exact⟨v,by rw[hbe];exact hv⟩
  ·refine(ok b u q).stay (λc v hc r=>k c v ?_ r) (λc r=>by rw[ag (nown c b r)];exact r) λc xs r=>by rw[ag (ntup c xs r)];exact r
   rcases hc with rfl |hc
   ·exact hbe
   ·rintro rfl;rcases he with z |z
    ·exact nown c b hc z
    ·rw[hc] at z;cases z;exact hb rfl
end
structure Un (fs ex:List Addr)(H H':Hp)(h h':Heap):Prop where
 keep:∀b o,h.get? b=some o->H b=none->b∉fs->b∉ex->h'.get? b=some o
 slot:∀b o,h.get? b=some o->H b=none->b∈fs->b∉ex->∃sl,h'.get? b=some { o with slots:=sl }
 free:∀b o,h.get? b=some o->H b=none->b∉ex->H' b=none
 there:∀b o,h.get? b=some o->b∉ex->∃o',h'.get? b=some o'
 tups:∀b xs,H b=some (.tup xs)->H' b=some (.tup xs)
 frzs:∀b o u,H b=some (.frz o u)->H' b=some (.frz o u)
 tbls:∀b ps,H b=some (.tbl ps)->∃more,H' b=some (.tbl (ps++more))
section
variable {fs fs' ex ex':List Addr}{H H1 H2:Hp}{h h1 h2 h':Heap}{a x e:Addr}{o:HO}
def Un.any (u:Un fs ex H H1 h h1){b:Addr}{ob:Obj}(q:h.get? b=some ob)(n:H b=none)(hx:b∉ex):∃sl,h1.get? b=some { ob with slots:=sl }:=by
 by_cases hb:b∈fs
 ·exact u.slot b ob q n hb hx
 ·exact⟨ob.slots,u.keep b ob q n hb hx⟩
def Un.kept (k:∀b u,h.get? b=some u->h'.get? b=some u):Un fs ex H H h h':=
 ⟨λb ob q _ _ _=>k b ob q,λb ob q _ _ _=>⟨ob.slots,k b ob q⟩,λ_ _ _ n _=>n,λb ob q _=>⟨ob,k b ob q⟩,λ_ _ q=>q,λ_ _ _ q=>q,λ_ ps q=>⟨#[],by rw[q];simp⟩⟩
def Un.refl:Un fs ex H H h h:=Un.kept λ_ _ q=>q
def Un.laid (k:∀b u,h.get? b=some u->h'.get? b=some u)(hp:h.objs.size<=a)(hn:H a=none):Un fs ex H (upd H a o) h h' where
 keep:=λb u q _ _ _=>k b u q
 slot:=λb u q _ _ _=>⟨u.slots,k b u q⟩
 free:=λb u q n _=>by rw[ag (l31 (l29 (Heap.lt_size q) hp))];exact n
 there:=λb u q _=>⟨u,k b u q⟩
 tups:=λb xs q=>by rw[ag (ak q hn)];exact q
 frzs:=λb u xs q=>by rw[ag (ak q hn)];exact q
 tbls:=λb ps q=>⟨#[],by rw[ag (ak q hn),q];simp⟩
def Un.write (mu:Mut (H x))(he:e=x ∨ H e=some (.own x))(k:∀b u,b≠e->h.get? b=some u->h'.get? b=some u)(heo:∃u,h'.get? e=some u):Un fs ex H (upd H x o) h h':=by
 have hx:∀b,H b=none->b≠x:=λb n z=>by subst z;rw[n] at mu;exact mu
 have hb:∀b,H b=none->b≠e:=λb n z=>by
  subst z;rcases he with r |r
  ·exact hx b n r
  ·rw[n] at r;cases r
 have hm:∀b u,H b=some u->¬ Mut (some u)->b≠x:=λb u q nm z=>by subst z;rw[q] at mu;exact nm mu
 refine ⟨λb u q n _ _=>k b u (hb b n) q,λb u q n _ _=>⟨u.slots,k b u (hb b n) q⟩,λb u q n _=>by rw[ag (hx b n)];exact n,λb u q _=>?_,
  λb xs q=>by rw[ag (hm b _ q λz=>z)];exact q,λb u xs q=>by rw[ag (hm b _ q λz=>z)];exact q,λb ps q=>⟨#[],by rw[ag (hm b _ q λz=>z),q];simp⟩⟩
 by_cases hbe:b=e
 ·subst hbe;exact heo
 ·exact⟨u,k b u hbe q⟩
end
def trk (h:Heap)(H:Hp):List Addr:=(List.range h.objs.size).filter λa=>(H a).isSome
def hidT (h:Heap)(H:Hp):Heap:=PySem.W.hideAll h (trk h H)
def om (h:Heap)(H:Hp):(hidT h H).objs.size=h.objs.size:=PySem.W.hideAll_size _ _
def rc {h:Heap}{H:Hp}{b:Addr}{o:Obj}(e:h.get? b=some o)(n:H b=none):(hidT h H).get? b=some o:=
 PySem.W.hideAll_get _ e λhm=>by
  have q:(H b).isSome=true:=(l65.mp hm).2;rw[n] at q;simp at q
def uf {h:Heap}{H:Hp}{b:Addr}{o:Obj}(e:(hidT h H).get? b=some o):h.get? b=some o/\H b=none:=by
 have e':h.get? b=some o:=PySem.W.of_hideAll (trk h H) e;refine⟨e',?_⟩;cases q:H b with
 |none=>rfl
 |some x=>
  have hm:b∈trk h H:=l65.mpr ⟨l33.mpr (Heap.lt_size e'),by simp[q]⟩;have z:(hidT h H).get? b=none:=PySem.W.hideAll_none (trk h H) hm;rw[z] at e;cases e
structure Mod (K:Frag)(mg:Str->Option Value)(base:Heap):Prop where
 kin:K.In base
 glob:base.Ns mainGlobals mg
 blt:∃mb,base.Ns builtinsNs mb/\∀x:Str,x≠"__name__"->mb x=bootBuiltins x
 nolimit:base.NoLimit
structure Cx where
 prog:Program
 w:World
 K:Frag
 mg:Str->Option Value
 base:Heap
 A:Around
 N:List Str
 s₀:Shared
 H₀:Hp
 env:Env
 outer:List Env
 stack:List Env
 ex:List Addr
 fn:Str->Bool
 calm:Bool
 pn:List (Addr×Obj)
 xe:Value->Shared->Prop
def frs (l:List Env):List Addr:=l.filterMap (·.frame)
abbrev Cx.fs (X:Cx):List Addr:=frs X.outer
def Vis (sc:Scope)(x:Str):Prop:=sc.names.lookup x=some .local ∨ sc.names.lookup x=some .cell ∨ sc.names.lookup x=some .free
def Loc (sc:Scope)(x:Str):Prop:=sc.names.lookup x=some .local ∨ sc.names.lookup x=some .cell
def Look (env:Env)(h:Heap)(m:Str->Option Value)(x:Str)(u:Value):Prop:=
 (env.kindOf x=some .local/\m x=some u) ∨ ((env.kindOf x=some .cell ∨ env.kindOf x=some .free)/\∃c,env.cells.lookup x=some c/\h.IsCell c (some u))
structure Cx.Ok (X:Cx):Prop where
 mod:Mod X.K X.mg X.base
 kind:X.env.scope.kind = .function
 glob:X.env.globals=mainGlobals
 blt:X.env.builtins=builtinsNs
 above:X.s₀.heap.objs.size<=X.env.locals
 inj:∀x y c,X.env.cells.lookup x=some c->X.env.cells.lookup y=some c->x=y
 has:∀x,(X.env.kindOf x=some .cell ∨ X.env.kindOf x=some .free)->∃c,X.env.cells.lookup x=some c
 cab:∀x c,X.fn x=true->X.env.cells.lookup x=some c->X.s₀.heap.objs.size<=c
 hd:X.calm=true->X.A.handled=none
 frames:X.A.frames=some X.stack
 stk:X.stack=X.outer ∨ (X.stack=X.env::X.outer/\X.env.frame=some X.env.locals)
 exf:∀b∈X.ex,b≠X.env.locals/\∀x c,X.env.cells.lookup x=some c->c≠b
 bs:∀b o,X.base.get? b=some o->X.s₀.heap.get? b=some o/\X.H₀ b=none
 bsz:X.base.objs.size<=X.s₀.heap.objs.size
 noex:∀b o,X.base.get? b=some o->b∉X.ex
 exfs:∀b∈X.ex,b∉X.fs
 funs:X.s₀.heap.FunFrames X.base X.outer
 frf:∀b∈X.fs,X.H₀ b=none
structure Inv (X:Cx)(w9:List (Addr×Obj))(σ:List (Option V))(H:Hp)(s:Shared):Prop where
 ok:X.Ok
 os:s.os=X.s₀.os
 bare:AllBare s.gens
 base:Un X.fs X.ex X.H₀ H X.s₀.heap s.heap
 loc:∃m,s.heap.Ns X.env.locals m/\∀(i:Nat) (x:Str) (v:V),X.N[i]? = some x->σ[i]? = some (some v)->Vis X.env.scope x->∃u,RelV v u/\Look X.env s.heap m x u
 cell:∀x c,X.env.cells.lookup x=some c->∃v,s.heap.IsCell c v
 free:H X.env.locals=none
 freeC:∀x c,X.env.cells.lookup x=some c->H c=none
 pin:∀p∈X.pn++w9,s.heap.get? p.1=some p.2/\H p.1=none/\p.1≠X.env.locals/\p.1∉X.fs/\∀v,p.2.data ≠ .cell v
 hok:HOk X.prog X.w H s.heap
 len:σ.length=X.N.length
 tk:0 < s.toks
section
variable {X:Cx}{w9:List (Addr×Obj)}{σ:List (Option V)}{H H':Hp}{s:Shared}{h':Heap}
def Cx.Ok.nofr (ok:X.Ok){b:Addr}{o:Obj}(e:X.base.get? b=some o):b∉X.fs:=λhb=>by
 have:=(ok.funs.mem hb).1;rw[e] at this;cases this
def Inv.bs (I:Inv X w9 σ H s):∀b o,X.base.get? b=some o->s.heap.get? b=some o/\H b=none:=λb o e=>
 ⟨I.base.keep b o (I.ok.bs b o e).1 (I.ok.bs b o e).2 (I.ok.nofr e) (I.ok.noex b o e),I.base.free b o (I.ok.bs b o e).1 (I.ok.bs b o e).2 (I.ok.noex b o e)⟩
def Inv.bk (I:Inv X w9 σ H s):∀b o,X.base.get? b=some o->s.heap.get? b=some o:=λb o e=>(I.bs b o e).1
def Inv.mod (I:Inv X w9 σ H s):Mod X.K X.mg X.base:=I.ok.mod
def Inv.kIn (I:Inv X w9 σ H s):X.K.In s.heap:=I.ok.mod.kin.keeps I.bk
def Inv.lt (I:Inv X w9 σ H s):X.env.locals < s.heap.objs.size:=let ⟨_,hn,_⟩:=I.loc;hn.lt
def Inv.sz (I:Inv X w9 σ H s):X.s₀.heap.objs.size<=s.heap.objs.size:=l11 I.ok.above (Nat.le_of_lt I.lt)
def Inv.nofs (I:Inv X w9 σ H s){a:Addr}(h:s.heap.objs.size<=a):a∉X.fs:=λhb=>by
 obtain⟨_,o,ho,_⟩:=I.ok.funs.mem hb;exact absurd (l29 (Heap.lt_size ho) (l11 I.sz h)) (l46 _)
def Inv.cne (I:Inv X w9 σ H s):∀x c,X.env.cells.lookup x=some c->c≠X.env.locals:=λx c e z=>by
 obtain⟨v,o,ho,hd⟩:=I.cell x c e;obtain⟨m,⟨o',es,ep,ho',hd',_⟩,_⟩:=I.loc;rw[z,ho'] at ho;cases ho;rw[hd'] at hd;cases hd
def Inv.funs (I:Inv X w9 σ H s):s.heap.FunFrames X.base X.outer:=by
 have all:∀(l:List Env),(∀b∈frs l,b∈X.fs)->X.s₀.heap.FunFrames X.base l->s.heap.FunFrames X.base l:=by
  intro l
  induction l with
  |nil=>intro _ _;trivial
  |cons env r ih=>
   intro hs hl;obtain⟨hk,⟨L,o,hf,hn,ho,hd⟩,hr⟩:=hl;have hL:L∈X.fs:=hs L (by unfold frs;rw[List.filterMap_cons,hf];exact l8);obtain⟨sl,e⟩:=I.base.slot L o ho (I.ok.frf L hL) hL λz=>I.ok.exfs L z hL;exact⟨hk,⟨L,_,hf,hn,e,hd⟩,ih (λb hb=>hs b (by unfold frs;rw[List.filterMap_cons,hf];exact l7 _ hb)) hr⟩
 exact all X.outer (λ_ hb=>hb) I.ok.funs
def Inv.stack (I:Inv X w9 σ H s):s.heap.FunFrames X.base X.stack:=by
 rcases I.ok.stk with e |⟨e,hf⟩
 ·rw[e];exact I.funs
 ·rw[e];obtain⟨m,hn,_⟩:=I.loc;refine .cons (by rw[I.ok.kind];decide) hf hn ?_ I.funs;exact Heap.get?_none_of_le (l11 I.ok.bsz I.ok.above)
def Inv.stkSub (I:Inv X w9 σ H s):∀b∈frs X.stack,b∈X.env.locals::X.fs:=λb hb=>by
 rcases I.ok.stk with e |⟨e,hf⟩
 ·rw[e] at hb;exact l7 _ hb
 ·rw[e] at hb;unfold frs at hb;rw[List.filterMap_cons,hf] at hb;exact hb
def Inv.stkFree (I:Inv X w9 σ H s):∀b∈frs X.stack,H b=none:=λb hb=>by
 rcases l9.mp (I.stkSub b hb) with e |hb
 ·rw[e];exact I.free
 ·obtain⟨_,o,ho,_⟩:=I.ok.funs.mem hb;exact I.base.free b o ho (I.ok.frf b hb) λz=>I.ok.exfs b z hb
def Inv.step {g':Array GenState}{t':Nat}{d':Drawn}{ch:List Addr}(I:Inv X w9 σ H s)
  (hch:∀b∈ch,(b∈X.ex ∨ X.s₀.heap.objs.size<=b)/\b≠X.env.locals/\(∀x c,X.env.cells.lookup x=some c->c≠b)/\∀p∈X.pn++w9,p.1≠b)
  (keep:∀b o,b≠X.env.locals->b∉X.fs->b∉ch->s.heap.get? b=some o->H b=none->h'.get? b=some o)
  (slot:∀b o,b≠X.env.locals->b∈X.fs->b∉ch->s.heap.get? b=some o->H b=none->∃sl,h'.get? b=some { o with slots:=sl }) (free:∀b o,b∉ch->s.heap.get? b=some o->H b=none->H' b=none)
  (there:∀b o,b∉ch->s.heap.get? b=some o->∃o',h'.get? b=some o')
  (tups:∀b xs,H b=some (.tup xs)->H' b=some (.tup xs)) (frzs:∀b o u,H b=some (.frz o u)->H' b=some (.frz o u)) (tbls:∀b ps,H b=some (.tbl ps)->∃more,H' b=some (.tbl (ps++more)))
  (ns:∀m,s.heap.Ns X.env.locals m->h'.Ns X.env.locals m) (hok:HOk X.prog X.w H' h') (hg:AllBare g') (ht:0 < t':=by first |assumption |exact l37 _ |(apply Inv.tk;assumption)):
  Inv X w9 σ H' { s with heap:=h',gens:=g',drawn:=d',toks:=t' }:=by
 have neL:∀b o,X.s₀.heap.get? b=some o->b≠X.env.locals:=λb o e=>l31 (l29 (Heap.lt_size e) I.ok.above);have neC:∀b o,X.s₀.heap.get? b=some o->b∉X.ex->b∉ch:=λb o e hx hb=>by
  rcases (hch b hb).1 with z |z
  ·exact hx z
  ·exact absurd (l29 (Heap.lt_size e) z) (l46 _)
 have cellK:∀x c,X.env.cells.lookup x=some c->∀v,s.heap.IsCell c v->h'.IsCell c v:=λx c e v ⟨o,ho,hd⟩=>by
  have nch:c∉ch:=λz=>(hch c z).2.2.1 x c e rfl;by_cases hc:c∈X.fs
  ·obtain⟨sl,q⟩:=slot c o (I.cne x c e) hc nch ho (I.freeC x c e);exact⟨_,q,hd⟩
  ·exact⟨o,keep c o (I.cne x c e) hc nch ho (I.freeC x c e),hd⟩
 refine⟨I.ok,I.os,hg,⟨λb o e n hb hx=>?_,λb o e n hb hx=>?_,λb o e n hx=>?_,λb o e hx=>?_,λb xs e=>tups b xs (I.base.tups b xs e),λb o xs e=>frzs b o xs (I.base.frzs b o xs e),λb ps e=>?_⟩,?_,λx c e=>?_,?_,λx c e=>?_,λp hp=>?_,hok,I.len,ht⟩
 ·exact keep b o (neL b o e) hb (neC b o e hx) (I.base.keep b o e n hb hx) (I.base.free b o e n hx)
 ·obtain⟨sl,e1⟩:=I.base.slot b o e n hb hx;obtain⟨sl',e2⟩:=slot b _ (neL b o e) hb (neC b o e hx) e1 (I.base.free b o e n hx);exact⟨sl',e2⟩
 ·obtain⟨o',e1⟩:=I.base.there b o e hx;exact free b o' (neC b o e hx) e1 (I.base.free b o e n hx)
 ·obtain⟨o',e1⟩:=I.base.there b o e hx;exact there b o' (neC b o e hx) e1
 ·obtain⟨m1,e1⟩:=I.base.tbls b ps e;obtain⟨m2,e2⟩:=tbls b _ e1;exact⟨m1++m2,by rw[e2,Array.append_assoc]⟩
 ·obtain⟨m,hn,hl⟩:=I.loc;refine⟨m,ns m hn,λi x v e1 e2 e3=>?_⟩;obtain⟨u,r,l⟩:=hl i x v e1 e2 e3;refine⟨u,r,?_⟩;rcases l with l |⟨k,c,e,z⟩
  ·exact .inl l
  ·exact .inr ⟨k,c,e,cellK x c e _ z⟩
 ·obtain⟨v,z⟩:=I.cell x c e;exact⟨v,cellK x c e v z⟩
 ·obtain⟨m,⟨o,_,_,ho,_⟩,_⟩:=I.loc;exact free _ o (λz=>(hch _ z).2.1 rfl) ho I.free
 ·obtain⟨v,o,ho,hd⟩:=I.cell x c e;exact free c o (λz=>(hch c z).2.2.1 x c e rfl) ho (I.freeC x c e)
 ·obtain⟨e,n,ne,nf,d⟩:=I.pin p hp;have nch:p.1∉ch:=λz=>(hch p.1 z).2.2.2 p hp rfl;exact⟨keep p.1 p.2 ne nf nch e n,free p.1 p.2 nch e n,ne,nf,d⟩
def Inv.un {t':Nat}(I:Inv X w9 σ H s)(u:Un X.fs [] H H' s.heap h')(hok:HOk X.prog X.w H' h')(ht:0 < t':=by first |assumption |exact l37 _ |(apply Inv.tk;assumption)):Inv X w9 σ H' { s with heap:=h',toks:=t' }:=by
 obtain⟨m,⟨o,es,ep,ho,r⟩,_⟩:=id I.loc;obtain⟨sl,hL⟩:=u.any ho I.free (by simp);exact I.step (g' := s.gens) (d' := s.drawn) (ch := []) (fun _ z => nomatch z) (fun b o _ hb _ e n => u.keep b o e n hb (by simp)) (fun b o _ hb _ e n => u.slot b o e n hb (by simp)) (fun b o _ e n => u.free b o e n (by simp)) (fun b o _ e => u.there b o e (by simp)) u.tups u.frzs u.tbls (λm' hm=>by
  obtain⟨o',es',ep',ho',r'⟩:=hm;rw[ho] at ho';cases ho';exact⟨_,es',ep',hL,r'⟩) hok I.bare
def Inv.call {g':Array GenState}{t':Nat}{d':Drawn}{ch:List Addr}(I:Inv X w9 σ H s)(u:Un (frs X.stack) ch H H' s.heap h')(hok:HOk X.prog X.w H' h')(hg:AllBare g')
  (hch:∀b∈ch,(b∈X.ex ∨ X.s₀.heap.objs.size<=b)/\b≠X.env.locals/\(∀x c,X.env.cells.lookup x=some c->c≠b)/\∀p∈X.pn++w9,p.1≠b)(ht:0 < t':=by first |assumption |exact l37 _ |(apply Inv.tk;assumption)):
  Inv X w9 σ H' { s with heap:=h',gens:=g',drawn:=d',toks:=t' }:=by
 obtain⟨m,⟨o,es,ep,ho,r⟩,_⟩:=id I.loc;obtain⟨sl,hL⟩:=u.any ho I.free λz=>(hch _ z).2.1 rfl;exact I.step (ch := ch) hch (fun b o hL hb hc e n => u.keep b o e n (fun z => (l9.mp (I.stkSub b z)).elim hL hb) hc) (fun b o _ _ hc e n => u.any e n hc) (fun b o hc e n => u.free b o e n hc) (fun b o hc e => u.there b o e hc) u.tups u.frzs u.tbls (λm' hm=>by
  obtain⟨o',es',ep',ho',r'⟩:=hm;rw[ho] at ho';cases ho';exact⟨_,es',ep',hL,r'⟩) hok hg
def Inv.turned {t':Nat}{it:Addr}(I:Inv X w9 σ H s)(k:∀b o,b≠it->s.heap.get? b=some o->h'.get? b=some o)(hn:H it=none)(hL:it≠X.env.locals)
  (h1:it∈X.ex ∨ X.s₀.heap.objs.size<=it)(h2:∀x c,X.env.cells.lookup x=some c->c≠it)(h3:∀p∈X.pn++w9,p.1≠it)(ht:0 < t':=by first |assumption |exact l37 _ |(apply Inv.tk;assumption)):Inv X w9 σ H { s with heap:=h',toks:=t' }:=by
 have nit:∀b u,H b=some u->b≠it:=λb u e z=>by rw[z,hn] at e;cases e
 refine I.step (g':=s.gens) (d':=s.drawn) (ch:=[it]) (λb hb=>?_) (λb o _ _ hc e _=>k b o (λz=>hc (by simp[z])) e) (λb o _ _ hc e _=>⟨o.slots,k b o (λz=>hc (by simp[z])) e⟩) (λ_ _ _ _ n=>n)
  (λb o hc e=>⟨o,k b o (λz=>hc (by simp[z])) e⟩) (λ_ _ e=>e) (λ_ _ _ e=>e) (λb ps e=>⟨#[],by rw[e];simp⟩) (λm hm=>?_) (λb u e=>?_) I.bare
 ·have e:b=it:=by simpa using hb
  subst e;exact⟨h1,hL,h2,h3⟩
 ·obtain⟨o,es,ep,ho,r⟩:=hm;exact⟨o,es,ep,k _ o (Ne.symm hL) ho,r⟩
 ·refine(I.hok b u e).stay (λc v hc q=>k c v ?_ q) (λ_ q=>q) λ_ _ q=>q;rcases hc with z |z
  ·rw[z];exact nit b u e
  ·exact nit c _ z
def Inv.tok (I:Inv X w9 σ H s)(t:Nat)(ht:0 < t:=by first |assumption |exact l37 _ |(apply Inv.tk;assumption)):Inv X w9 σ H { s with toks:=t }:=I.un (h':=s.heap) (t':=t) Un.refl I.hok
def Inv.kept {t':Nat}(I:Inv X w9 σ H s)(k:∀b u,s.heap.get? b=some u->h'.get? b=some u)(ht:0 < t':=by first |assumption |exact l37 _ |(apply Inv.tk;assumption)):Inv X w9 σ H { s with heap:=h',toks:=t' }:=I.un (Un.kept k) (I.hok.kept k)
def Inv.laid {a:Addr}{o:HO}{t':Nat}(I:Inv X w9 σ H s)(k:∀b u,s.heap.get? b=some u->h'.get? b=some u)(hp:s.heap.objs.size<=a)(new:ObjOk X.prog X.w (upd H a o) h' a o)(ht:0 < t':=by first |assumption |exact l37 _ |(apply Inv.tk;assumption)):
  Inv X w9 σ (upd H a o) { s with heap:=h',toks:=t' }:=I.un (Un.laid k hp (I.hok.fresh hp)) (I.hok.laid k hp new)
def Inv.write {x e:Addr}{o:HO}{t':Nat}(I:Inv X w9 σ H s)(mu:Mut (H x))(he:e=x ∨ H e=some (.own x))(k:∀b u,b≠e->s.heap.get? b=some u->h'.get? b=some u)(heo:∃u,h'.get? e=some u)
  (new:ObjOk X.prog X.w (upd H x o) h' x o)(ht:0 < t':=by first |assumption |exact l37 _ |(apply Inv.tk;assumption)):Inv X w9 σ (upd H x o) { s with heap:=h',toks:=t' }:=I.un (Un.write mu he k heo) (I.hok.write mu he k heo new)
def Inv.weak {σ':List (Option V)}(I:Inv X w9 σ H s)(hl:σ'.length=σ.length)(w:∀(i:Nat) v,σ'[i]? = some (some v)->σ[i]? = some (some v)):Inv X w9 σ' H s:=
 ⟨I.ok,I.os,I.bare,I.base,let ⟨m,hn,hl'⟩:=I.loc;⟨m,hn,λi x v e1 e2 e3=>hl' i x v e1 (w i v e2) e3⟩,I.cell,I.free,I.freeC,I.pin,I.hok,hl.trans I.len,I.tk⟩
def Inv.pins_of {pins':List (Addr×Obj)}(I:Inv X w9 σ H s)(h:∀p∈pins',s.heap.get? p.1=some p.2/\H p.1=none/\p.1≠X.env.locals/\p.1∉X.fs/\∀v,p.2.data ≠ .cell v):Inv X pins' σ H s:=
 ⟨I.ok,I.os,I.bare,I.base,I.loc,I.cell,I.free,I.freeC,λp hp=>(l21.mp hp).elim (λz=>I.pin p (l49 _ z)) (h p),I.hok,I.len,I.tk⟩
def me {N:List Str}(hN:N.Nodup){i j:Nat}{x:Str}(a:N[i]? = some x)(b:N[j]? = some x):i=j:=by
 obtain⟨h1,e1⟩:=List.getElem?_eq_some_iff.mp a;obtain⟨h2,e2⟩:=List.getElem?_eq_some_iff.mp b;exact(List.getElem_inj hN).mp (e1.trans e2.symm)
def jx {M:Model}{A:Around}{E:Value->Shared->Prop}{i:Nat}{x:Str}{v:V}{u:Value}{Q:Unit->Shared->Prop}(I:Inv X w9 σ H s)(hN:X.N.Nodup)(hi:X.N[i]? = some x)(hx:Loc X.env.scope x)(r:RelV v u)
  (h:∀s',Inv X w9 (σ.set i (some v)) H s'->(∃a,Heap.SameBut a s.heap s'.heap/\(a=X.env.locals ∨ X.env.cells.lookup x=some a))->Q () s')(hf:X.fn x=true ∨ X.env.scope.names.lookup x=some .local:=by first |exact .inl rfl |exact .inr rfl |assumption):wpAny M A (storeName X.env x u) Q E s:=by
 obtain⟨m,hn,hl⟩:=id I.loc;have hcls:(X.env.scope.kind == .class||(X.env.scope.kind == .module&&X.env.locals != X.env.globals))=false:=by rw[I.ok.kind];rfl
 have hiσ:i < σ.length:=by rw[I.len];exact(List.getElem?_eq_some_iff.mp hi).1
 have cne:=I.cne;have tracked:∀{a:Addr} {h':Heap},(∃o,s.heap.get? a=some o/\H a=none)->Heap.SameBut a s.heap h'->HOk X.prog X.w H h':=λ{a h'} ha hs b ob e=>by
  obtain⟨_,_,hfree⟩:=ha;refine(I.hok b ob e).stay (λc w' hc q=>(hs.2 c ?_).trans q) (λ_ q=>q) λ_ _ q=>q;rintro rfl;rcases hc with rfl |hc
  ·rw[hfree] at e;cases e
  ·rw[hfree] at hc;cases hc
 rcases hx with hk |hk
 ·refine wpAny_storeName_local hk hn (λh' hn' hs=>?_) hcls;obtain⟨oL,_,_,hoL,_⟩:=id hn;refine h _ ⟨I.ok,I.os,I.bare,⟨λb o e n hb hx=>?_,λb o e n hb hx=>?_,I.base.free,λb o e hx=>?_,I.base.tups,I.base.frzs,I.base.tbls⟩,⟨_,hn',λj y v' e1 e2 e3=>?_⟩,λy c e=>?_,I.free,I.freeC,λp hp=>?_,tracked ⟨oL,hoL,I.free⟩ hs,by simpa using I.len,by first |exact I.tk |exact l37 _⟩ ⟨_,hs, .inl rfl⟩
  ·exact(hs.2 b (l31 (l29 (Heap.lt_size e) I.ok.above))).trans (I.base.keep b o e n hb hx)
  ·obtain⟨sl,e1⟩:=I.base.slot b o e n hb hx;exact⟨sl,(hs.2 b (l31 (l29 (Heap.lt_size e) I.ok.above))).trans e1⟩
  ·obtain⟨o',e1⟩:=I.base.there b o e hx;exact⟨o',(hs.2 b (l31 (l29 (Heap.lt_size e) I.ok.above))).trans e1⟩
  ·by_cases hj:j=i
   ·subst hj;rw[hi] at e1;cases e1;rw[List.getElem?_set_self hiσ] at e2;cases e2;exact⟨u,r, .inl ⟨hk,by simp⟩⟩
   ·rw[List.getElem?_set_ne (Ne.symm hj)] at e2;obtain⟨u',r',q⟩:=hl j y v' e1 e2 e3;refine⟨u',r',?_⟩;rcases q with ⟨k,e⟩ |⟨k,c,e,z⟩
    ·refine .inl ⟨k,?_⟩;have:y≠x:=λe=>hj (me hN e1 (e▸hi));simp[this,e]
    ·exact .inr ⟨k,c,e,z.sameBut hs (cne y c e)⟩
  ·obtain⟨w',z⟩:=I.cell y c e;exact⟨w',z.sameBut hs (cne y c e)⟩
  ·obtain⟨e,n,ne,nf,d⟩:=I.pin p hp;exact⟨(hs.2 p.1 ne).trans e,n,ne,nf,d⟩
 ·have hfn:X.fn x=true:=by
   rcases hf with z |z
   ·exact z
   ·rw[z] at hk;cases hk
  obtain⟨c,hc⟩:=I.ok.has x (.inl hk);obtain⟨w',z⟩:=I.cell x c hc;refine wpAny_storeName_cell I.ok.kind hk hc z (λh' hc' hs=>?_);obtain⟨oc,hoc,hocd⟩:=id z;refine h { s with heap:=h' } ⟨I.ok,I.os,I.bare,⟨λb o e n hb hx=>?_,λb o e n hb hx=>?_,I.base.free,λb o e hx=>?_,I.base.tups,I.base.frzs,I.base.tbls⟩,⟨m,hn.sameBut hs (Ne.symm (cne x c hc)),λj y v' e1 e2 e3=>?_⟩,λy c' e=>?_,I.free,I.freeC,λp hp=>?_,tracked ⟨oc,hoc,I.freeC x c hc⟩ hs,by simpa using I.len,by first |exact I.tk |exact l37 _⟩ ⟨c,hs, .inr hc⟩
  ·exact(hs.2 b (l31 (l29 (Heap.lt_size e) (I.ok.cab x c hfn hc)))).trans (I.base.keep b o e n hb hx)
  ·obtain⟨sl,e1⟩:=I.base.slot b o e n hb hx;exact⟨sl,(hs.2 b (l31 (l29 (Heap.lt_size e) (I.ok.cab x c hfn hc)))).trans e1⟩
  ·obtain⟨o',e1⟩:=I.base.there b o e hx;exact⟨o',(hs.2 b (l31 (l29 (Heap.lt_size e) (I.ok.cab x c hfn hc)))).trans e1⟩
  ·by_cases hj:j=i
   ·subst hj;rw[hi] at e1;cases e1;rw[List.getElem?_set_self hiσ] at e2;cases e2;exact⟨u,r, .inr ⟨.inl hk,c,hc,hc'⟩⟩
   ·rw[List.getElem?_set_ne (Ne.symm hj)] at e2;obtain⟨u',r',q⟩:=hl j y v' e1 e2 e3;refine⟨u',r',?_⟩;rcases q with q |⟨k,c',e,z'⟩
    ·exact .inl q
    ·refine .inr ⟨k,c',e,z'.sameBut hs ?_⟩;rintro rfl;exact hj (me hN e1 (I.ok.inj _ _ _ e hc▸hi))
  ·by_cases hcc:c'=c
   ·subst hcc;exact⟨_,hc'⟩
   ·obtain⟨w2,z2⟩:=I.cell y c' e;exact⟨w2,z2.sameBut hs hcc⟩
  ·obtain⟨e,n,ne,nf,d⟩:=I.pin p hp;refine⟨(hs.2 p.1 ?_).trans e,n,ne,nf,d⟩;intro q;rw[q,hoc] at e;have q':oc=p.2:=Option.some.inj e;exact d w' (by rw[<- q'];exact hocd)
def iy {M:Model}{A:Around}{E:Value->Shared->Prop}{i:Nat}{x:Str}{v:V}{u:Value}{Q:Unit->Shared->Prop}(I:Inv X w9 σ H s)(hN:X.N.Nodup)(hi:X.N[i]? = some x)(hx:Loc X.env.scope x)(r:RelV v u)
  (h:∀s',Inv X w9 (σ.set i (some v)) H s'->Q () s')(hf:X.fn x=true ∨ X.env.scope.names.lookup x=some .local:=by first |exact .inl rfl |exact .inr rfl |assumption):wpAny M A (storeName X.env x u) Q E s:=
 jx I hN hi hx r (λs' I' _=>h s' I') hf
def Inv.call' {s':Shared}{ch:List Addr}(I:Inv X w9 σ H s)(ho:s'.os=s.os)(u:Un (frs X.stack) ch H H' s.heap s'.heap)(hok:HOk X.prog X.w H' s'.heap)(hg:AllBare s'.gens)
  (hch:∀b∈ch,(b∈X.ex ∨ X.s₀.heap.objs.size<=b)/\b≠X.env.locals/\(∀x c,X.env.cells.lookup x=some c->c≠b)/\∀p∈X.pn++w9,p.1≠b)(ht:0 < s'.toks):Inv X w9 σ H' s':=by
 obtain⟨h',g',d',t',o'⟩:=s';have e:o'=s.os:=ho;subst e;exact I.call (g':=g') (t':=t') (d':=d') u hok hg hch ht
end
abbrev XK:=Value->Option Addr->Hp->Prop
abbrev St:=List (Option V)
abbrev VK:=V->Hp->Prop
abbrev TE:=St->Hp->VK->Prop
abbrev TT:=St->Hp->(Bool->Hp->Prop)->Prop
abbrev TA:=St->Hp->(List V->Hp->Prop)->Prop
structure Ends where
 nx:St->Hp->Prop
 rt:VK
 bk:St->Hp->Prop:=λ_ _=>False
 ct:St->Hp->Prop:=λ_ _=>False
abbrev TS:=Ends->St->Hp->Prop
inductive EP (X:Cx)(w9:List (Addr×Obj))(σ:St)(Q:VK)(u:Value)(s':Shared):Prop
 |mk (v H')(_:Inv X w9 σ H' s')(_:RelV v u)(_:Q v H')
inductive TP (X:Cx)(w9:List (Addr×Obj))(σ:St)(Q:Bool->Hp->Prop)(b:Bool)(s':Shared):Prop
 |mk (H')(_:Inv X w9 σ H' s')(_:Q b H')
inductive AP (X:Cx)(w9:List (Addr×Obj))(σ:St)(Q:List V->Hp->Prop)(us:List Value)(s':Shared):Prop
 |mk (vs H')(_:Inv X w9 σ H' s')(_:Vals vs us)(_:Q vs H')
def SP (X:Cx)(w9:List (Addr×Obj))(D:Ends)(f:Flow)(s':Shared):Prop:=
 match f with
 | .next=>∃σ' H',Inv X w9 σ' H' s'/\D.nx σ' H'
 | .brk=>∃σ' H',Inv X w9 σ' H' s'/\D.bk σ' H'
 | .cont=>∃σ' H',Inv X w9 σ' H' s'/\D.ct σ' H'
 | .ret u=>∃v σ' H',Inv X w9 σ' H' s'/\RelV v u/\D.rt v H'
def PE (X:Cx)(e:Expr)(t:TE):Prop:=
 ∀(w9:List (Addr×Obj)) (s:Shared) (σ:St) (H:Hp) (Q:VK),Inv X w9 σ H s->t σ H Q->wpAny (model X.prog X.w) X.A (eval e X.env) (EP X w9 σ Q) X.xe s
def PT (X:Cx)(e:Expr)(t:TT):Prop:=
 ∀(w9:List (Addr×Obj)) (s:Shared) (σ:St) (H:Hp) (Q:Bool->Hp->Prop),Inv X w9 σ H s->t σ H Q->wpAny (model X.prog X.w) X.A (isTrue e X.env (eval e X.env)) (TP X w9 σ Q) X.xe s
def PW (X:Cx)(e:Expr)(t:TT):Prop:=
 ∀(whole:Sem Value) (w9:List (Addr×Obj)) (s:Shared) (σ:St) (H:Hp) (Q:Bool->Hp->Prop),Inv X w9 σ H s->t σ H Q->wpAny (model X.prog X.w) X.A (isTrue e X.env whole) (TP X w9 σ Q) X.xe s
def PW.pt {X:Cx}{e:Expr}{t:TT}(h:PW X e t):PT X e t:=h _
def PA (X:Cx)(es:List Expr)(t:TA):Prop:=
 ∀(pos:Pos) (w9:List (Addr×Obj)) (s:Shared) (σ:St) (H:Hp) (Q:List V->Hp->Prop),Inv X w9 σ H s->t σ H Q->wpAny (model X.prog X.w) X.A (spliced (backTo pos (starEach es X.env))) (AP X w9 σ Q) X.xe s
def PS (X:Cx)(st:Stmt)(t:TS):Prop:=
 ∀(w9:List (Addr×Obj)) (s:Shared) (σ:St) (H:Hp) (D:Ends),Inv X w9 σ H s->t D σ H->wpAny (model X.prog X.w) X.A (exec st X.env) (SP X w9 D) X.xe s
def PSs (X:Cx)(st:List Stmt)(t:TS):Prop:=
 ∀(w9:List (Addr×Obj)) (s:Shared) (σ:St) (H:Hp) (D:Ends),Inv X w9 σ H s->t D σ H->wpAny (model X.prog X.w) X.A (execs st X.env) (SP X w9 D) X.xe s
def thn {α:Type}{t:Sem α}{Q Q':α->Shared->Prop}{M:Model}{A:Around}{E:Value->Shared->Prop}{s:Shared}(h:wpAny M A t Q E s)(hQ:∀a s,Q a s->Q' a s):wpAny M A t Q' E s:=wpAny_mono h hQ λ_ _ x=>x
section
variable {X:Cx}
inductive tVar (i:Nat)(σ:St)(H:Hp)(Q:VK):Prop
 |mk (v)(_:σ[i]? = some (some v))(_:Q v H)
def tC (v:V):TE:=λ_ H Q=>Q v H
def vR {i:Nat}{x:Str}{pos:Pos}(hN:X.N[i]? = some x)(hv:Vis X.env.scope x)(hd:(x==("__debug__":Str))=false:=by decide) (hcd:(x==("__classdict__":Str))=false:=by decide):PE X (.Name x pos) (tVar i):=by
 intro w9 s σ H Q I h;obtain⟨v,e,h⟩:=h;obtain⟨m,hn,hl⟩:=I.loc;obtain⟨u,r,l⟩:=hl i x v hN e hv;have fin:EP X w9 σ Q u s:=⟨v,H,I,r,h⟩;rcases l with ⟨hk,hm⟩ |⟨hk,c,hc,w5⟩
 ·exact wpAny_Name (wpAny_loadName_local I.ok.kind hk hn hm fin) hd
 ·rcases hk with hk |hk
  ·exact wpAny_Name (wpAny_loadName_cell I.ok.kind hk hc w5 fin) hd
  ·exact wpAny_Name (wpAny_loadName_free I.ok.kind hk hc w5 fin hcd) hd
def vT {i j pos}:PE X (.Constant (.int i) j pos) (tC (.int i)):=λ_ _ _ H _ I h=>wpAny_Constant_int ⟨.int i,H,I.tok _,⟨_,rfl⟩,h⟩
def xH {b j pos}:PE X (.Constant (.bool b) j pos) (tC (.bl b)):=λ_ _ _ H _ I h=>Constant_bool ⟨.bl b,H,I,rfl,h⟩
def vU {j pos}:PE X (.Constant .none j pos) (tC .non):=λ_ _ _ H _ I h=>Constant_none ⟨.non,H,I,rfl,h⟩
def vV {x j pos}:PE X (.Constant (.str x) j pos) (tC (.str x)):=λ_ _ _ H _ I h=>Calls.Constant_str ⟨.str x,H,I.tok _,⟨_,rfl⟩,h⟩
def Gl (X:Cx)(x:Str):Prop:=X.env.kindOf x=some .globalImplicit
def kK {E:Value->Shared->Prop}{w9:List (Addr×Obj)}{s:Shared}{σ:St}{H:Hp}{x:Str}{u:Value}{pos:Pos}{Q:Value->Shared->Prop}(I:Inv X w9 σ H s)(hg:Gl X x)(hm:X.mg x=some u)(h:Q u s)
  (hd:(x==("__debug__":Str))=false:=by decide):wpAny (model X.prog X.w) X.A (eval (.Name x pos) X.env) Q E s:=
 Calls.Name_function_global I.ok.kind hg (Calls.loadGlobal_global (by rw[I.ok.glob];exact I.mod.glob.keeps I.bk) hm h) hd
def mf {E:Value->Shared->Prop}{w9:List (Addr×Obj)}{s:Shared}{σ:St}{H:Hp}{x:Str}{u:Value}{pos:Pos}{Q:Value->Shared->Prop}(I:Inv X w9 σ H s)(hg:Gl X x)(hm:X.mg x=none)(hv:bootBuiltins x=some u)(h:Q u s)
  (hn:x≠"__name__":=by decide) (hd:(x==("__debug__":Str))=false:=by decide):wpAny (model X.prog X.w) X.A (eval (.Name x pos) X.env) Q E s:=by
 obtain⟨mb,h1,h2⟩:=I.mod.blt;exact Calls.Name_function_global I.ok.kind hg (Calls.loadGlobal_builtin (by rw[I.ok.glob];exact I.mod.glob.keeps I.bk) hm (by rw[I.ok.blt];exact h1.keeps I.bk) ((h2 x hn).trans hv) h) hd
def oo {x:Str}{v:V}{u:Value}{pos:Pos}(hg:Gl X x)(hm:X.mg x=some u)(r:RelV v u)(hd:(x==("__debug__":Str))=false:=by decide):PE X (.Name x pos) (tC v):=
 λ_ _ _ H _ I h=>kK I hg hm ⟨v,H,I,r,h⟩ hd
def ug {x:Str}{v:V}{u:Value}{pos:Pos}(hg:Gl X x)(hm:X.mg x=none)(hv:bootBuiltins x=some u)(r:RelV v u)(hn:x≠"__name__":=by decide) (hd:(x==("__debug__":Str))=false:=by decide):PE X (.Name x pos) (tC v):=
 λ_ _ _ H _ I h=>mf I hg hm hv ⟨v,H,I,r,h⟩ hn hd
variable {a b:Expr}{ta tb:TE}{pos:Pos}
inductive tB.I (Q:(Bool->Hp->Prop))(x:V)(H1:Hp):Prop
 |mk (c)(_:x = .bl c)(_:Q c H1)
def tB (t:TE):TT:=λσ H Q=>t σ H (tB.I Q)
def vW {e:Expr}{t:TE}(h:PE X e t)(he:∀whole,isTrue e X.env whole=(do let v ← whole;standAt e.pos;holding [v] (truthy v)):=by intro _;rfl):PT X e (tB t):=by
 intro w9 s σ H Q I hw;refine isTrue_plain (thn (h w9 s σ H _ I hw) λv s1 ⟨x,H1,I1,r1,q1⟩=>?_) (he _);obtain⟨d,rfl,q⟩:=q1;cases r1;exact wpAny_truthy_bool ⟨H1,I1,q⟩
variable {tA tB':TT}{rest:List Expr}
abbrev tAnd.K0 (u:TT)(σ:St)(Q:(Bool->Hp->Prop))(c:Bool)(H1:Hp):Prop:=if c=true then u σ H1 Q else Q false H1
def tAnd (t u:TT):TT:=λσ H Q=>t σ H (tAnd.K0 u σ Q)
abbrev tOr.K0 (u:TT) (σ:St) (Q:(Bool->Hp->Prop)) (c:Bool) (H1:Hp):Prop:=if c=true then Q true H1 else u σ H1 Q
def tOr (t u:TT):TT:=λσ H Q=>t σ H (tOr.K0 u σ Q)
abbrev tNot.K0 (Q:(Bool->Hp->Prop)) (c:Bool) (H1:Hp):Prop:=Q (!c) H1
def tNot (t:TT):TT:=λσ H Q=>t σ H (tNot.K0 Q)
def uh (ha:PT X a tA):PW X (.BoolOp .And [a] pos) tA:=by
 intro wh w9 s σ H Q I h;refine isTrue_and (thn (ha w9 s σ H Q I h) λc s1 e=>?_);cases c with
 |true=>exact isTrue_and_nil e
 |false=>exact e
def vX (ha:PT X a tA):PW X (.BoolOp .Or [a] pos) tA:=by
 intro wh w9 s σ H Q I h;refine isTrue_or (thn (ha w9 s σ H Q I h) λc s1 e=>?_);cases c with
 |false=>exact isTrue_or_nil e
 |true=>exact e
def vY (ha:PT X a tA)(hb:PW X (.BoolOp .And (b::rest) pos) tB'):PW X (.BoolOp .And (a::b::rest) pos) (tAnd tA tB'):=by
 intro wh w9 s σ H Q I h;refine isTrue_and (thn (ha w9 s σ H _ I h) λc s1 ⟨H1,I1,q1⟩=>?_);cases c with
 |true=>exact hb wh w9 s1 σ H1 Q I1 q1
 |false=>exact⟨H1,I1,q1⟩
def xI (ha:PT X a tA)(hb:PW X (.BoolOp .Or (b::rest) pos) tB'):PW X (.BoolOp .Or (a::b::rest) pos) (tOr tA tB'):=by
 intro wh w9 s σ H Q I h;refine isTrue_or (thn (ha w9 s σ H _ I h) λc s1 ⟨H1,I1,q1⟩=>?_);cases c with
 |true=>exact⟨H1,I1,q1⟩
 |false=>exact hb wh w9 s1 σ H1 Q I1 q1
def vZ (ha:PT X a tA):PT X (.UnaryOp .Not a pos) (tNot tA):=by
 intro w9 s σ H Q I h;exact isTrue_not (thn (ha w9 s σ H (λc H1=>Q (!c) H1) I h) λc s1 ⟨H1,I1,q1⟩=>⟨H1,I1,q1⟩)
inductive tAndV.I (tb:TE)(σ:St)(Q:VK)(x:V)(H1:Hp):Prop
 |mk (c)(_:x = .bl c)(_:if c=true then tb σ H1 Q else Q (.bl false) H1)
def tAndV (ta tb:TE):TE:=λσ H Q=>ta σ H (tAndV.I tb σ Q)
inductive tOrV.I (tb:TE)(σ:St)(Q:VK)(x:V)(H1:Hp):Prop
 |mk (c)(_:x = .bl c)(_:if c=true then Q (.bl true) H1 else tb σ H1 Q)
def tOrV (ta tb:TE):TE:=λσ H Q=>ta σ H (tOrV.I tb σ Q)
def wa {op}{t:TE}(h:PE X a t):PE X (.BoolOp op [a] pos) t:=λw9 s σ H Q I hw=>BoolOp_one (h w9 s σ H Q I hw)
def wb (ha:PE X a ta)(hb:PE X (.BoolOp .And (b::rest) pos) tb):PE X (.BoolOp .And (a::b::rest) pos) (tAndV ta tb):=by
 intro w9 s σ H Q I h;refine BoolOp_and (thn (ha w9 s σ H _ I h) λv s1 ⟨x,H1,I1,r1,q1⟩=>?_);obtain⟨c,rfl,q1⟩:=q1;cases r1;refine wpAny_truthy_bool ?_;cases c with
 |true=>exact hb w9 s1 σ H1 Q I1 q1
 |false=>exact⟨.bl false,H1,I1,rfl,q1⟩
def xJ (ha:PE X a ta)(hb:PE X (.BoolOp .Or (b::rest) pos) tb):PE X (.BoolOp .Or (a::b::rest) pos) (tOrV ta tb):=by
 intro w9 s σ H Q I h;refine BoolOp_or (thn (ha w9 s σ H _ I h) λv s1 ⟨x,H1,I1,r1,q1⟩=>?_);obtain⟨c,rfl,q1⟩:=q1;cases r1;refine wpAny_truthy_bool ?_;cases c with
 |false=>exact hb w9 s1 σ H1 Q I1 q1
 |true=>exact⟨.bl true,H1,I1,rfl,q1⟩
abbrev tIf.K0 (ta:TE) (tb:TE) (σ:St) (Q:VK) (c:Bool) (H1:Hp):Prop:=if c=true then ta σ H1 Q else tb σ H1 Q
def tIf (t:TT)(ta tb:TE):TE:=λσ H Q=>t σ H (tIf.K0 ta tb σ Q)
def re {c:Expr}(hc:PT X c tA)(ha:PE X a ta)(hb:PE X b tb):PE X (.IfExp c a b pos) (tIf tA ta tb):=by
 intro w9 s σ H Q I h;refine wpAny_IfExp (thn (hc w9 s σ H _ I h) λd s1 ⟨H1,I1,q1⟩=>?_);cases d with
 |true=>exact ha w9 s1 σ H1 Q I1 q1
 |false=>exact hb w9 s1 σ H1 Q I1 q1
end
def SqL (K:Frag)(H:Hp)(a:Addr)(xs:List V):Prop:=
 Rd H a (.lst xs) ∨
  ∃(o:Obj) (its:Array Value) (n:Nat),K.lookup a=some o/\o.cls = .type "list"/\o.dict=none/\o.data = .seq its n/\its.size<=sizeLine/\Vals xs its.toList
def SqT (K:Frag)(H:Hp)(a:Addr)(xs:List V):Prop:=
 Rd H a (.tup xs) ∨
  ∃(o:Obj) (its:Array Value) (n:Nat),K.lookup a=some o/\o.cls = .type "tuple"/\o.data = .seq its n/\its.size<=sizeLine/\Vals xs its.toList
def absV:Value->Option V
 | .none=>some .non
 | .bool b=>some (.bl b)
 | .int i _=>some (.int i)
 | .str x _=>some (.str x)
 | .bytes b _=>some (.byt b)
 | .float b _=>some (.flt b)
 | .ref a=>some (.ref a)
 | .type n=>some (.ty n)
 |_=>none
def RelV.abs {x:V}{u:Value}(r:RelV x u):absV u=some x:=by
 cases x with
 |non=>cases r;rfl
 |bl _=>cases r;rfl
 |int _=>obtain⟨t,rfl⟩:=r;rfl
 |str _=>obtain⟨t,rfl⟩:=r;rfl
 |byt _=>obtain⟨t,rfl⟩:=r;rfl
 |flt _=>obtain⟨t,rfl⟩:=r;rfl
 |ref _=>cases r;rfl
 |ty _=>cases r;rfl
def RelV.inj {x y:V}{u:Value}(r:RelV x u)(q:RelV y u):x=y:=Option.some.inj (r.abs.symm.trans q.abs)
theorem Vals.inj:∀{xs ys:List V} {us:List Value},Vals xs us->Vals ys us->xs=ys
 |_,_,_, .nil, .nil=>rfl
 |_,_,_, .cons r t, .cons r' t'=>by rw[r.inj r',Vals.inj t t']
section
variable {X:Cx}{w9:List (Addr×Obj)}{σ:St}{H:Hp}{s:Shared}{a:Addr}{xs ys:List V}
def SqL.of {K:Frag}(h:H a=some (.lst xs)):SqL K H a xs := .inl (.inl h)
def SqT.of {K:Frag}(h:H a=some (.tup xs)):SqT K H a xs := .inl (.inl h)
def Inv.list (I:Inv X w9 σ H s)(h:SqL X.K H a xs):∃its:List Value,Vals xs its/\PlainL s.heap a its.toArray/\xs.length<=sizeLine:=by
 rcases h with h |⟨o,its,n,hk,hc,hd,hs,hz,r⟩
 ·obtain⟨z,its,n,r,e⟩:=h.ok I.hok;exact⟨its,r,⟨_,n,e,rfl,rfl,rfl⟩,z⟩
 ·refine⟨its.toList,r,⟨o,n,I.kIn a o hk,hc,hd,by simpa using hs⟩,?_⟩;have e:=r.length;simp only[Array.length_toList] at e;omega
def Inv.tuple (I:Inv X w9 σ H s)(h:SqT X.K H a xs):∃its:List Value,Vals xs its/\IsTup s.heap a its.toArray/\xs.length<=sizeLine:=by
 rcases h with h |⟨o,its,n,hk,hc,hs,hz,r⟩
 ·obtain⟨z,its,r,p⟩:=h.ok I.hok;exact⟨its,r,p,z⟩
 ·refine⟨its.toList,r,⟨o,I.kIn a o hk,hc,n,by simpa using hs⟩,?_⟩;have e:=r.length;simp only[Array.length_toList] at e;omega
def Inv.list_inj (I:Inv X w9 σ H s)(h:SqL X.K H a xs)(h':SqL X.K H a ys):xs=ys:=by
 obtain⟨its,r,⟨o,n,e,_,_,d⟩,_⟩:=I.list h;obtain⟨its',r',⟨o',n',e',_,_,d'⟩,_⟩:=I.list h';rw[e] at e';cases e';rw[d] at d';injection d' with d1 _
 have:its=its':=by simpa using congrArg Array.toList d1
 subst this;exact r.inj r'
end
abbrev Cx.wish (X:Cx)(E:Value->Shared->Prop):Cx:={ X with xe:=E }
abbrev Cx.nox (X:Cx):Cx:=X.wish λ_ _=>False
def Cx.Ok.wish {X:Cx}(ok:X.Ok)(E:Value->Shared->Prop):(X.wish E).Ok:=
 ⟨ok.mod,ok.kind,ok.glob,ok.blt,ok.above,ok.inj,ok.has,ok.cab,ok.hd,ok.frames,ok.stk,ok.exf,ok.bs,ok.bsz,ok.noex,ok.exfs,ok.funs,ok.frf⟩
def Cx.Ok.unwish {X:Cx}{E:Value->Shared->Prop}(ok:(X.wish E).Ok):X.Ok:=
 ⟨ok.mod,ok.kind,ok.glob,ok.blt,ok.above,ok.inj,ok.has,ok.cab,ok.hd,ok.frames,ok.stk,ok.exf,ok.bs,ok.bsz,ok.noex,ok.exfs,ok.funs,ok.frf⟩
section
variable {X:Cx}{w9:List (Addr×Obj)}{σ:St}{H:Hp}{s:Shared}{E:Value->Shared->Prop}
def Inv.wish (I:Inv X w9 σ H s)(E:Value->Shared->Prop):Inv (X.wish E) w9 σ H s:=⟨I.ok.wish E,I.os,I.bare,I.base,I.loc,I.cell,I.free,I.freeC,I.pin,I.hok,I.len,I.tk⟩
def Inv.unwish (I:Inv (X.wish E) w9 σ H s):Inv X w9 σ H s:=⟨I.ok.unwish,I.os,I.bare,I.base,I.loc,I.cell,I.free,I.freeC,I.pin,I.hok,I.len,I.tk⟩
def SP.unwish {D:Ends}{f:Flow}{s':Shared}(h:SP (X.wish E) w9 D f s'):SP X w9 D f s':=by
 cases f with
 |next=>obtain⟨σ',H',I,q⟩:=h;exact⟨σ',H',I.unwish,q⟩
 |brk=>obtain⟨σ',H',I,q⟩:=h;exact⟨σ',H',I.unwish,q⟩
 |cont=>obtain⟨σ',H',I,q⟩:=h;exact⟨σ',H',I.unwish,q⟩
 |ret u=>obtain⟨v,σ',H',I,r,q⟩:=h;exact⟨v,σ',H',I.unwish,r,q⟩
def PSs.nox {st:List Stmt}{t:TS}(h:PSs X.nox st t):PSs X st t:=λw9 s σ H D I hw=>
 wpAny_mono (h w9 s σ H D (I.wish _) hw) (λ_ _ q=>q.unwish) λ_ _ z=>False.elim z
end
section
variable {X:Cx}{st:Stmt}{rest:List Stmt}{t u:TS}{e:Expr}{te:TE}{pos:Pos}
def iz:TS:=λD σ H=>D.nx σ H
def Ends.to (D:Ends)(u:TS):Ends:={ D with nx:=u D }
def Ends.to_nx {D:Ends}{u:TS}:(Ends.to D u).nx=u D:=rfl
def Ends.to_rt {D:Ends}{u:TS}:(Ends.to D u).rt=D.rt:=rfl
def tSeq (t u:TS):TS:=λD σ H=>t (Ends.to D u) σ H
def ui:PSs X [] iz:=λ_ _ σ H _ I h=>wpAny_execs_nil ⟨σ,H,I,h⟩
def rf (h1:PS X st t)(h2:PSs X rest u):PSs X (st::rest) (tSeq t u):=by
 intro w9 s σ H D I h;refine wpAny_execs_cons (thn (h1 w9 s σ H { D with nx:=u D } I h) λf s1 q=>?_);cases f with
 |next=>
  obtain⟨σ',H',I',q⟩:=q;exact h2 w9 s1 σ' H' D I' q
 |ret v=>exact q
 |brk=>exact q
 |cont=>exact q
def uj (h1:PS X st t):PSs X [st] t:=by
 intro w9 s σ H D I h;refine wpAny_execs_cons (thn (h1 w9 s σ H D I h) λf s1 q=>?_);cases f with
 |next=>exact wpAny_execs_nil q
 |ret v=>exact q
 |brk=>exact q
 |cont=>exact q
def sZ:TS:=λD σ H=>D.bk σ H
def wc:TS:=λD σ H=>D.ct σ H
def rg:PS X (.Break pos) sZ:=λ_ _ σ H _ I h=>wpAny_Break ⟨σ,H,I,h⟩
def kL:PS X (.Continue pos) wc:=λ_ _ σ H _ I h=>wpAny_Continue ⟨σ,H,I,h⟩
def Inv.quiet {w9:List (Addr×Obj)}{σ:St}{H:Hp}{s:Shared}(I:Inv X w9 σ H s):interactive X.env=false:=by simp[interactive,I.ok.kind]
abbrev tDrop.K0 (D:Ends) (σ:St) (u_0:V) (H1:Hp):Prop:=D.nx σ H1
def tDrop (te:TE):TS:=λD σ H=>te σ H (tDrop.K0 D σ)
def uk (he:PE X e te)(hs:swapsWith e none pos.line X.env=pure false:=by rfl):PS X (.Expr e pos) (tDrop te):=by
 intro w9 s σ H D I h;exact wpAny_Expr_any (thn (he w9 s σ H _ I h) λv s1 ⟨x,H1,I1,r1,q1⟩=>⟨σ,H1,I1,q1⟩) I.quiet hs
def tRet (te:TE):TS:=λD σ H=>te σ H D.rt
def we (he:PE X e te):PS X (.Return (some e) pos) (tRet te):=by
 intro w9 s σ H D I h;exact wpAny_Return_some (thn (he w9 s σ H _ I h) λv s1 ⟨x,H1,I1,r1,q1⟩=>⟨x,σ,H1,I1,r1,q1⟩)
abbrev tIfS.K0 (t:TS) (u:TS) (D:Ends) (σ:St) (b:Bool) (H1:Hp):Prop:=if b=true then t D σ H1 else u D σ H1
def tIfS (c:TT)(t u:TS):TS:=λD σ H=>c σ H (tIfS.K0 t u D σ)
def xK {c:Expr}{a b:List Stmt}{tc:TT}(hc:PT X c tc)(ha:PSs X a t)(hb:PSs X b u):PS X (.If c a b pos) (tIfS tc t u):=by
 intro w9 s σ H D I h;refine wpAny_If (thn (hc w9 s σ H _ I h) λd s1 ⟨H1,I1,q1⟩=>?_);cases d with
 |true=>exact ha w9 s1 σ H1 D I1 q1
 |false=>exact hb w9 s1 σ H1 D I1 q1
def tm:TS:=λ_ _ _=>False
def rh:PS X st tm:=λ_ _ _ _ _ _ h=>h.elim
end
abbrev TG:=V->St->Hp->(St->Hp->Prop)->Prop
abbrev TGs:=List V->St->Hp->(St->Hp->Prop)->Prop
def PG (X:Cx)(target:Expr)(t:TG):Prop:=
 ∀(w9:List (Addr×Obj)) (s:Shared) (σ:St) (H:Hp) (v:V) (u:Value) (Q:St->Hp->Prop),Inv X w9 σ H s->RelV v u->t v σ H Q →
  wpAny (model X.prog X.w) X.A (assign target X.env u) (λ_ s'=>∃σ' H',Inv X w9 σ' H' s'/\Q σ' H') X.xe s
def PGs (X:Cx)(ts:List Expr)(t:TGs):Prop:=
 ∀(w9:List (Addr×Obj)) (s:Shared) (σ:St) (H:Hp) (vs:List V) (us:List Value) (Q:St->Hp->Prop),Inv X w9 σ H s->Vals vs us->t vs σ H Q →
  wpAny (model X.prog X.w) X.A (assignInOrder ((assignEach ts X.env).map (·.2)) us) (λ_ s'=>∃σ' H',Inv X w9 σ' H' s'/\Q σ' H') X.xe s
abbrev TSet:=V->V->V->Hp->(Hp->Prop)->Prop
def PSet (X:Cx)(t:TSet):Prop:=
 ∀(w9:List (Addr×Obj)) (s:Shared) (σ:St) (H:Hp) (o i v:V) (ov iv u:Value) (Q:Hp->Prop),Inv X w9 σ H s->RelV o ov->RelV i iv->RelV v u->t o i v H Q →
  wpAny (model X.prog X.w) X.A (setItem ov iv u) (λ_ s'=>∃H',Inv X w9 σ H' s'/\Q H') X.xe s
abbrev TIp:=V->V->Hp->VK->Prop
def PIp (X:Cx)(op:Operator)(t:TIp):Prop:=
 ∀(w9:List (Addr×Obj)) (s:Shared) (σ:St) (H:Hp) (x y:V) (v u:Value) (Q:VK),Inv X w9 σ H s->RelV x v->RelV y u->t x y H Q →
  wpAny (model X.prog X.w) X.A (inplaceOp op v u) (EP X w9 σ Q) X.xe s
section
variable {X:Cx}{pos:Pos}
def ah (i:Nat):TG:=λv σ H Q=>Q (σ.set i (some v)) H
def ul {i:Nat}{x:Str}(hN:X.N.Nodup)(hi:X.N[i]? = some x)(hx:Loc X.env.scope x)(hf:X.fn x=true ∨ X.env.scope.names.lookup x=some .local:=by first |exact .inl rfl |exact .inr rfl |assumption):PG X (.Name x pos) (ah i):=by
 intro w9 s σ H v u Q I r h;exact wpAny_assign_Name (iy I hN hi hx r (λs' I'=>⟨_,H,I',h⟩) hf)
inductive gNil (vs:List V)(σ:St)(H:Hp)(Q:(St->Hp->Prop)):Prop
 |mk (_:vs=[])(_:Q σ H)
inductive gCons (t:TG)(u:TGs)(vs:List V)(σ:St)(H:Hp)(Q:(St->Hp->Prop)):Prop
 |mk (v r)(_:vs=v::r)(_:t v σ H λσ' H'=>u r σ' H' Q)
def um:PGs X [] gNil:=by
 intro w9 s σ H vs us Q I r h;obtain⟨e,h⟩:=h;subst e;cases r;exact assignInOrder_nil ⟨σ,H,I,h⟩
def rj {e:Expr}{es:List Expr}{t:TG}{u:TGs}(h1:PG X e t)(h2:PGs X es u)
  (hs:(assignEach (e::es) X.env).map (·.2)=assign e X.env::(assignEach es X.env).map (·.2):=by rfl):PGs X (e::es) (gCons t u):=by
 intro w9 s σ H vs us Q I r h;obtain⟨v,vr,e1,h⟩:=h;subst e1;cases r with
 |cons r rr=>
  rw[hs];refine assignInOrder_cons (thn (h1 w9 s σ H _ _ _ I r h) λ_ s1 ⟨σ1,H1,I1,q1⟩=>?_);exact h2 w9 s1 σ1 H1 _ _ Q I1 rr q1
inductive gTup (K:Frag)(n:Nat)(t:TGs)(v:V)(σ:St)(H:Hp)(Q:(St->Hp->Prop)):Prop
 |mk (a xs)(_:v = .ref a)(_:SqT K H a xs)(_:xs.length=n)(_:t xs σ H Q)
def wf {es:List Expr}{k:Nat}{t:TGs}{n:Nat}(hc:X.calm=true)(h:PGs X es t)
  (hn:(assignEach es X.env).length=n:=by rfl) (hst:(assignEach es X.env).findIdx? (·.1)=none:=by rfl):PG X (.Tuple es k pos) (gTup X.K n t):=by
 intro w9 s σ H v u Q I r hw;obtain⟨a,xs,e1,hq,hl,hw⟩:=hw;subst e1;cases r;obtain⟨its,rv,ht,hz⟩:=I.tuple hq;refine assign_Tuple_tuple (I.ok.hd hc) ht (by simp[hn,<- hl,rv.length]) hst λh' hx=>?_;have I1:Inv X w9 σ H { s with heap:=h' }:=I.kept (t':=s.toks) λb o e=>hx b o (l31 (Heap.lt_size e)) e;exact h w9 _ σ H xs _ Q I1 (by simpa using rv) hw
abbrev gSub.K2 (σ:St) (Q:(St->Hp->Prop)) (H3:Hp):Prop:=Q σ H3
abbrev gSub.K1 (t:TSet) (v:V) (σ:St) (Q:(St->Hp->Prop)) (o:V) (i:V) (H2:Hp):Prop:=t o i v H2 (gSub.K2 σ Q)
abbrev gSub.K0 (ti:TE) (t:TSet) (v:V) (σ:St) (Q:(St->Hp->Prop)) (o:V) (H1:Hp):Prop:=ti σ H1 (gSub.K1 t v σ Q o)
def gSub (to ti:TE)(t:TSet):TG:=λv σ H Q=>to σ H (gSub.K0 ti t v σ Q)
def wg {o i:Expr}{to ti:TE}{t:TSet}(ho:PE X o to)(hi:PE X i ti)(hs:PSet X t)
  (ha : ∀ v, assign (.Subscript o i pos) X.env v = (do
   let ov ← holding [v] (eval o X.env)
   let iv ← holding [v,ov] (eval i X.env)
   standAt pos
   holding [v,ov,iv] (setItem ov iv v)
   release [v,ov,iv] []):=by intro _;rfl):PG X (.Subscript o i pos) (gSub to ti t):=by
 intro w9 s σ H v u Q I r h;rw[ha];refine wpAny_bind (wpAny_holding (thn (ho w9 s σ H _ I h) λov s1 ⟨x,H1,I1,r1,q1⟩=>?_));refine wpAny_bind (wpAny_holding (thn (hi w9 s1 σ H1 _ I1 q1) λiv s2 ⟨y,H2,I2,r2,q2⟩=>?_));refine wpAny_bind (wpAny_standAt (wpAny_bind (wpAny_holding (thn (hs w9 s2 σ H2 x y v ov iv u _ I2 r1 r2 r q2) λ_ s3 ⟨H3,I3,q3⟩=>?_))));exact wpAny_release ⟨σ,H3,I3,q3⟩
abbrev tAsg.K0 (g:TG) (D:Ends) (σ:St) (x:V) (H1:Hp):Prop:=g x σ H1 D.nx
def tAsg (te:TE)(g:TG):TS:=λD σ H=>te σ H (tAsg.K0 g D σ)
def wj {tg e:Expr}{te:TE}{g:TG}(he:PE X e te)(hg:PG X tg g)(hs:swapsWithSole [tg] e pos.line X.env=pure false:=by rfl) (hw:swappedStores [tg] e X.env=pure none:=by rfl)
  (h1:(assignEach [tg] X.env).map (·.2)=[assign tg X.env]:=by rfl):PS X (.Assign [tg] e pos) (tAsg te g):=by
 intro w9 s σ H D I h;refine wpAny_Assign_stores (thn (he w9 s σ H _ I h) λv s1 ⟨x,H1,I1,r1,q1⟩=>?_) hs hw;rw[h1];exact thn (hg w9 s1 σ H1 x v _ I1 r1 q1) λ_ s2 q=>q
def wk {i:Nat}{x:Str}{e:Expr}{te:TE}{pos':Pos}(hN:X.N.Nodup)(hi:X.N[i]? = some x)(hx:Loc X.env.scope x)(he:PE X e te)(hs:swapsWith e (some (.Name x pos')) pos.line X.env=pure false:=by rfl) (hf:X.fn x=true ∨ X.env.scope.names.lookup x=some .local:=by first |exact .inl rfl |exact .inr rfl |assumption):
  PS X (.Assign [.Name x pos'] e pos) (tAsg te (ah i)):=by
 intro w9 s σ H D I h;refine wpAny_Assign_Name (thn (he w9 s σ H _ I h) λv s1 ⟨y,H1,I1,r1,q1⟩=>?_) hs;exact iy I1 hN hi hx r1 (λs2 I2=>⟨_,H1,I2,q1⟩) hf
inductive tAug (i:Nat)(te:TE)(ti:TIp)(D:Ends)(σ:St)(H:Hp):Prop
 |mk (x)(_:σ[i]? = some (some x))(_:te σ H λy H1=>ti x y H1 λz H2=>D.nx (σ.set i (some z)) H2)
def wl {i:Nat}{x:Str}{e:Expr}{te:TE}{op:Operator}{ti:TIp}{pos':Pos}(hN:X.N.Nodup)(hi:X.N[i]? = some x)(hx:Loc X.env.scope x)(he:PE X e te)(ho:PIp X op ti)(hf:X.fn x=true ∨ X.env.scope.names.lookup x=some .local:=by first |exact .inl rfl |exact .inr rfl |assumption):
  PS X (.AugAssign (.Name x pos') op e pos) (tAug i te ti):=by
 intro w9 s σ H D I h;obtain⟨v,e1,h⟩:=h;obtain⟨m,hn,hl⟩:=I.loc;have vis:Vis X.env.scope x:=by rcases hx with k |k;exact .inl k;exact .inr (.inl k)
 obtain⟨u,r,l⟩:=hl i x v hi e1 vis;refine wpAny_AugAssign_Name ?_;have go:wpAny (model X.prog X.w) X.A (eval e X.env) (λw s₂=>wpAny (model X.prog X.w) X.A (inplaceOp op u w) (λr s₃=>wpAny (model X.prog X.w) X.A (storeName X.env x r) (λ_=>SP X w9 D .next) X.xe s₃) X.xe s₂) X.xe s:=by
  refine thn (he w9 s σ H _ I h) λw s1 ⟨y,H1,I1,r1,q1⟩=>?_;refine thn (ho w9 s1 σ H1 v y u w _ I1 r r1 q1) λz s2 ⟨zv,H2,I2,r2,q2⟩=>?_;exact iy I2 hN hi hx r2 (λs3 I3=>⟨_,H2,I3,q2⟩) hf
 rcases l with ⟨hk,hm⟩ |⟨hk,c,hc,w5⟩
 ·exact wpAny_loadName_local I.ok.kind hk hn hm go
 ·rcases hk with hk |hk
  ·exact wpAny_loadName_cell I.ok.kind hk hc w5 go
  ·rcases hx with k |k
   ·have:X.env.scope.names.lookup x=some .free:=hk;rw[k] at this;cases this
   ·have:X.env.scope.names.lookup x=some .free:=hk;rw[k] at this;cases this
inductive ipI (f:Int->Int->Int)(x y:V)(H:Hp)(Q:VK):Prop
 |mk (i j)(_:x = .int i)(_:y = .int j)(_:Q (.int (f i j)) H)
def fT:PIp X .Add (ipI λi j=>i+j):=by
 intro w9 s σ H x y v u Q I r1 r2 h;obtain⟨i,j,e1,e2,q⟩:=h;subst e1;subst e2;obtain⟨t,rfl⟩:=r1;obtain⟨t',rfl⟩:=r2;exact iadd_int ⟨.int _,H,I.tok _,⟨_,rfl⟩,q⟩
inductive tWhile (c:TT)(tb:TS)(D:Ends)(σ:St)(H:Hp):Prop
 |mk (W:Nat->St->Hp->Prop)(_:∃m,W m σ H)(_:∀m σ H,W m σ H->c σ H λb H1=>if b=true then ∃N:St->Hp->Prop,(∀σ' H',N σ' H'->∃m',m' < m/\W m' σ' H')/\tb { D with nx:=N,ct:=N,bk:=D.nx } σ H1 else D.nx σ H1)
def rk {c:Expr}{body:List Stmt}{tc:TT}{tb:TS}(hp:PassesOwn (model X.prog X.w) X.A X.env X.xe)(hc:PT X c tc)(hb:PSs X body tb):PS X (.While c body [] pos) (tWhile tc tb):=by
 intro w9 s σ H D I h;obtain⟨W,⟨m0,w0⟩,turn⟩:=h;refine wpAny_While (codeAny_whileLoop (λn s'=>∃σ' H',Inv X w9 σ' H' s'/\W n σ' H') ?_ m0 ⟨σ,H,I,w0⟩);rintro n s1 ⟨σ1,H1,I1,w1⟩;refine wpAny_passesOwn hp (thn (hc w9 s1 σ1 H1 _ I1 (turn n σ1 H1 w1)) λb s2 ⟨H2,I2,q2⟩=>?_);cases b with
 |true=>
  obtain⟨N,hN,q2⟩:=q2;rw[if_pos rfl];refine wpAny_passesOwn hp (thn (hb w9 s2 σ1 H2 _ I2 q2) λf s3 q3=>?_);cases f with
  |next=>
   obtain⟨σ3,H3,I3,n3⟩:=q3;obtain⟨m',hm,w3⟩:=hN σ3 H3 n3;exact⟨m',hm,σ3,H3,I3,w3⟩
  |cont=>
   obtain⟨σ3,H3,I3,n3⟩:=q3;obtain⟨m',hm,w3⟩:=hN σ3 H3 n3;exact⟨m',hm,σ3,H3,I3,w3⟩
  |brk=>exact q3
  |ret v=>exact q3
 |false=>
  rw[if_neg Bool.false_ne_true];exact wpAny_execs_nil ⟨σ1,H2,I2,q2⟩
end
structure It where
 go:Nat->Hp->Prop
 yld:Nat->Hp->V->Hp->Prop
 stop:Nat->Hp->Prop
def FpOk (X:Cx)(w9:List (Addr×Obj))(H:Hp)(b:Addr):Prop:=
 H b=none/\b≠X.env.locals/\b∉X.fs/\(b∈X.ex ∨ X.s₀.heap.objs.size<=b)/\(∀x c,X.env.cells.lookup x=some c->c≠b)/\∀p∈X.pn++w9,p.1≠b
def Inv.fpOk {X:Cx}{w9:List (Addr×Obj)}{σ:St}{H H':Hp}{s:Shared}{b:Addr}(I:Inv X w9 σ H s)(hb:s.heap.objs.size<=b)(hn:H' b=none):FpOk X w9 H' b:=by
 refine⟨hn,Nat.ne_of_gt (l29 I.lt hb),I.nofs hb, .inr (l11 I.sz hb),λx c e z=>?_,λp hp z=>?_⟩
 ·obtain⟨v,q⟩:=I.cell x c e;exact absurd (l29 q.lt (by rw[z];exact hb)) (l46 _)
 ·exact absurd (l29 (Heap.lt_size (I.pin p hp).1) (by rw[z];exact hb)) (l46 _)
structure Turn (P:Program)(w:World)(K:Frag)(tg:Expr)(J:It)(fp:List Addr)(it:Addr)(tn:Nat->Heap->Prop):Prop where
 mem:it∈fp
 obj:∀i h,tn i h->∀b∈fp,∃o,h.get? b=some o/\∀v,o.data ≠ .cell v
 keep:∀i h h',tn i h->(∀b∈fp,∀o,h.get? b=some o->h'.get? b=some o)->tn i h'
 item:∀(X:Cx),X.prog=P->X.w=w->X.K=K->X.calm=true->∀(i:Nat) (w9:List (Addr×Obj)) (s:Shared) (σ:St) (H:Hp) (E:Value->Shared->Prop),Inv X w9 σ H s->(∀b∈fp,FpOk X w9 H b)->tn i s.heap->J.go i H →
  wpAny (model P w) X.A (pyNext (.ref it)) (λr s1=>∃u,r=some u ∧
   wpAny (model P w) X.A (letOwnedTupleGo tg (.ref it) u) (λ_ s2=>∃x H',Inv X w9 σ H' s2/\RelV x u/\J.yld i H x H'/\tn (i+1) s2.heap/\∀b∈fp,H' b=none) E s1) E s
 done:∀(X:Cx),X.prog=P->X.w=w->X.K=K->X.calm=true->∀(i:Nat) (w9:List (Addr×Obj)) (s:Shared) (σ:St) (H:Hp) (E:Value->Shared->Prop),Inv X w9 σ H s->(∀b∈fp,FpOk X w9 H b)->tn i s.heap->J.stop i H →
  wpAny (model P w) X.A (pyNext (.ref it)) (λr s1=>r=none/\Inv X w9 σ H s1) E s
 self:∀(A:Around) (i:Nat) (s:Shared) (Q:Value->Shared->Prop) (E:Value->Shared->Prop),tn i s.heap->Q (.ref it) s->wpAny (model P w) A (pyIter (.ref it)) Q E s
abbrev TI:=St->Hp->(It->Hp->Prop)->Prop
inductive PIE (X:Cx)(w9:List (Addr×Obj))(σ:St)(tg:Expr)(R:It->Hp->Prop)(itv:Value)(s2:Shared):Prop
 |mk (it:Addr)(fp:List Addr)(tn:Nat->Heap->Prop)(J:It)(H':Hp)(_:itv = .ref it)(_:Inv X w9 σ H' s2)(_:Turn X.prog X.w X.K tg J fp it tn)(_:tn 0 s2.heap)(_:∀b∈fp,FpOk X w9 H' b)(_:R J H')
def PI (X:Cx)(tg iter:Expr)(wi:TI):Prop:=
 ∀(w9:List (Addr×Obj)) (s:Shared) (σ:St) (H:Hp) (R:It->Hp->Prop),Inv X w9 σ H s->wi σ H R →
  wpAny (model X.prog X.w) X.A (eval iter X.env) (λv s1=>wpAny (model X.prog X.w) X.A (pyIter v) (PIE X w9 σ tg R) X.xe s1) X.xe s
def wm {M:Model}{A:Around}{E:Value->Shared->Prop}{s:Shared}{tg:Expr}{it:Addr}{u:Value}{o:Obj}{n:String}{vs:Array Value}{Q:Unit->Shared->Prop}(ho:s.heap.get? it=some o)(hc:o.cls = .type n)(hd:o.data = .fields vs)
  (hn:["enumerate","zip","dict_itemiterator","dict_reverseitemiterator","odict_iterator","itertools.zip_longest","itertools.pairwise"].contains n=false)(hQ:Q () s):wpAny M A (letOwnedTupleGo tg (.ref it) u) Q E s:=by
 unfold letOwnedTupleGo;cases tg <;> first
  |exact wpAny_pure hQ
  | (cases u <;> first
    |exact wpAny_pure hQ
    | (refine wpAny_bind (wpAny_load ho ?_)
       rw[hc,hd];show wpAny M A (if (["enumerate","zip","dict_itemiterator","dict_reverseitemiterator","odict_iterator","itertools.zip_longest","itertools.pairwise"].contains n&&vs[0]? == some (rawInt _))=true then _ else _) Q E s;rw[if_neg (by intro h;rw[hn,Bool.false_and] at h;cases h)];exact wpAny_pure hQ))
def Itl (K:Frag)(a:Addr):It:=
 ⟨λi H=>∃xs x,SqL K H a xs/\xs[i]? = some x,λi H x H'=>H'=H/\∀xs,SqL K H a xs->xs[i]? = some x,λi H=>∃xs,SqL K H a xs/\xs.length<=i⟩
def Itr (lo:Int)(n:Nat):It:=⟨λi _=>i < n,λi H x H'=>H'=H/\x = .int (lo+i),λi _=>n<=i⟩
def oq {P:Program}{w:World}{K:Frag}{tg:Expr}(a it:Addr):Turn P w K tg (Itl K a) [it] it (λi h=>h.IsListIter it a i) where
 mem:=by simp
 obj:=λi h st b hb=>by
  have e:b=it:=by simpa using hb
  subst e;obtain⟨o,e,c,d⟩:=st;exact⟨o,e,λv z=>by rw[d] at z;cases z⟩
 keep:=λi h h' st k=>st.at λo e=>k it (by simp) o e
 item:=by
  intro X hP hw hK hc i w9 s σ H E I hf st hg;subst hP hw hK;obtain⟨xs,x,hq,hx⟩:=hg;obtain⟨its,rv,p,hz⟩:=I.list hq;obtain⟨u,hu,ru⟩:=rv.get hx;obtain⟨f0,f1,f2,f3,f4,f5⟩:=hf it (by simp);refine wpAny_pyNext_list_item st p.isList (x:=u) (by simpa using hu) λh' st' sb=>?_;have I1:Inv X w9 σ H { s with heap:=h' }:=I.turned (t':=s.toks) (λb o hb e=>(sb.2 b hb).trans e) f0 f1 f3 f4 f5;obtain⟨o,e,c,d⟩:=id st';exact⟨u,rfl,wm (s:={ s with heap:=h' }) e c d ∅ ⟨x,H,I1,ru,⟨rfl,λys hy=>by rw[I.list_inj hy hq];exact hx⟩,st',λb hb=>(hf b hb).1⟩⟩
 done:=by
  intro X hP hw hK hc i w9 s σ H E I hf st hg;subst hP hw hK;obtain⟨xs,hq,hx⟩:=hg;obtain⟨its,rv,p,hz⟩:=I.list hq;obtain⟨f0,f1,f2,f3,f4,f5⟩:=hf it (by simp);have hl:=rv.length;exact wpAny_pyNext_list_end (I.ok.hd hc) st p.isList (by simp;omega) λh' eb=>⟨rfl,I.turned (t':=s.toks) (λb o hb e=>eb b o hb e) f0 f1 f3 f4 f5⟩
 self:=λ_ _ _ _ _ st h=>wpAny_pyIter_listiter st h
def nl {P:Program}{w:World}{K:Frag}{tg:Expr}(it:Addr)(lo:Int)(n:Nat):Turn P w K tg (Itr lo n) [it] it (λi h=>IsRangeIter h it (lo+(i:Nat) * 1) ((n:Int) - (i:Nat)) 1) where
 mem:=by simp
 obj:=λi h st b hb=>by
  have e:b=it:=by simpa using hb
  subst e;exact ⟨_,st,λv z=>by
   have z':Data.fields _=Data.cell v:=z;cases z'⟩
 keep:=λi h h' st k=>k it (by simp) _ st
 item:=by
  intro X hP hw hK hc i w9 s σ H E I hf st hg;subst hP hw hK;obtain⟨f0,f1,f2,f3,f4,f5⟩:=hf it (by simp);have W:=Walks.range (prog:=X.prog) (w:=X.w) (I.ok.hd hc) it lo 1 n;refine wpAny_with_toks (n:=1) I.tk (W.item i s _ _ hg st λv h' tk hv st' kk htk=>?_);obtain⟨t,rfl⟩:=hv;have htk:0 < tk:=htk;have I1:Inv X w9 σ H { s with heap:=h',toks:=tk }:=I.turned (λb o hb e=>kk b o (by simpa using hb) e) f0 f1 f3 f4 f5;refine⟨_,rfl,wm (s:={ s with heap:=h',toks:=tk }) (n:="range_iterator") st' rfl rfl ∅ ⟨.int (lo+i),H,I1,⟨t,?_⟩,⟨rfl,rfl⟩,st',λb hb=>(hf b hb).1⟩⟩;rw[Int.mul_one]
 done:=by
  intro X hP hw hK hc i w9 s σ H E I hf st hg;subst hP hw hK;obtain⟨f0,f1,f2,f3,f4,f5⟩:=hf it (by simp);exact wpAny_pyNext_range_end (I.ok.hd hc) st (by have:n<=i:=hg;omega) λh' eb=>⟨rfl,I.turned (t':=s.toks) (λb o hb e=>eb b o hb e) f0 f1 f3 f4 f5⟩
 self:=λ_ _ _ _ _ st h=>wpAny_pyIter_rangeiter st h
section
variable {X:Cx}{tg:Expr}
inductive iList.I (K:Frag)(R:(It->Hp->Prop))(x:V)(H1:Hp):Prop
 |mk (a)(_:x = .ref a)(_:∃xs,SqL K H1 a xs)(_:R (Itl K a) H1)
def iList (K:Frag)(tl:TE):TI:=λσ H R=>tl σ H (iList.I K R)
def uo {l:Expr}{tl:TE}(hl:PE X l tl):PI X tg l (iList X.K tl):=by
 intro w9 s σ H R I h;refine thn (hl w9 s σ H _ I h) λv s1 ⟨x,H1,I1,r1,q1⟩=>?_;obtain⟨a,e,⟨xs,hq⟩,q⟩:=q1;subst e;cases r1;obtain⟨its,rv,p,hz⟩:=I1.list hq;refine wpAny_pyIter_list p.isList ?_;refine⟨s1.heap.objs.size,[s1.heap.objs.size],_,_,H1,rfl,I1.kept (t':=s1.toks) λb o e=>Heap.get?_push_of_some _ e,oq a _,⟨_,Heap.get?_push_size _ rfl,rfl,rfl⟩,λb hb=>?_,q⟩;have e:b=s1.heap.objs.size:=by simpa using hb
 subst e;exact I1.fpOk (l5 _) (I1.hok.fresh (l5 _))
def rl {w9:List (Addr×Obj)}{σ:St}{H:Hp}{s:Shared}{R:It->Hp->Prop}{E:Value->Shared->Prop}{lo hi:Int}{t u v:Tok}{tk:Nat}(htk:0 < tk)(I:Inv X w9 σ H s) (h1 : -(2 ^ 62)<=lo)(h2:lo < 2 ^ 62) (h3 : -(2 ^ 62)<=hi)(h4:hi < 2 ^ 62)
  (q:R (Itr lo (hi - lo).toNat) H):wpAny (model X.prog X.w) X.A (pyIter (.ref s.heap.objs.size)) (PIE X w9 σ tg R) E { s with heap:=s.heap.push { cls := .type "range",data := .fields #[.int lo t, .int hi u, .int 1 v] },toks:=tk }:=by
 refine wpAny_pyIter_range (IsRange.new ..) (small_one h1 h2 h3 h4) ?_;have I1:Inv X w9 σ H { s with heap:=s.heap.push { cls := .type "range",data := .fields #[.int lo t, .int hi u, .int 1 v] },toks:=tk }:=I.kept λb o e=>Heap.get?_push_of_some _ e;refine ⟨(s.heap.push { cls := .type "range",data := .fields #[.int lo t, .int hi u, .int 1 v] }).objs.size,[(s.heap.push { cls := .type "range",data := .fields #[.int lo t, .int hi u, .int 1 v] }).objs.size],_,_,H,rfl,
  I1.kept (t':=tk) λb o e=>Heap.get?_push_of_some _ e,nl _ lo (hi - lo).toNat,?_,λb hb=>?_,q⟩
 ·have e1:lo+((0:Nat):Int) * 1=lo:=by simp
  have e2:(((hi - lo).toNat:Nat):Int) - ((0:Nat):Int)=Builtin.Range.rangeSize lo hi 1:=by rw[rangeSize_one];split <;> omega
  show IsRangeIter _ _ (lo+((0:Nat):Int) * 1) ((((hi - lo).toNat:Nat):Int) - ((0:Nat):Int)) 1;rw[e1,e2];exact Heap.get?_push_size _ rfl
 ·have e:b=(s.heap.push { cls := .type "range",data := .fields #[.int lo t, .int hi u, .int 1 v] }).objs.size:=by simpa using hb
  subst e;exact I1.fpOk (l5 _) (I1.hok.fresh (l5 _))
inductive iRng1.I (R:(It->Hp->Prop))(vs:List V)(H1:Hp):Prop
 |mk (j:Int)(_:vs=[.int j])(_:-(2 ^ 62)<=j)(_:j < 2 ^ 62)(_:R (Itr 0 j.toNat) H1)
def iRng1 (ta:TA):TI:=λσ H R=>ta σ H (iRng1.I R)
def ow {a:Expr}{ta:TA}{p pos:Pos}(hg:Gl X "range")(hm:X.mg "range"=none)(ha:PA X [a] ta)(hs:starEach [a] X.env=[(false,eval a X.env)]:=by rfl):PI X tg (.Call (.Name "range" p) [a] [] pos) (iRng1 ta):=by
 intro w9 s σ H R I h;refine Call_ (mf I hg hm boot_range (callWith_type1 (thn (ha pos w9 s σ H _ I h) λus s1 ⟨vs,H1,I1,r1,q1⟩=>?_) hs rfl));obtain⟨j,e,q1,q2,q⟩:=q1;subst e;cases r1 with
 |cons r rr=>
  cases rr;obtain⟨t,rfl⟩:=r;exact call_range_1 (rl (by first |exact I1.tk |exact l37 _) I1 nofun nofun q1 q2 (by simpa using q))
abbrev tFor.K0 (g:TG) (tb:TS) (D:Ends) (σ:St) (J:It) (H1:Hp):Prop:=∃W:Nat->Nat->St->Hp->Prop,(∃m,W 0 m σ H1)/\∀i m σ H,W i m σ H->(J.stop i H/\D.nx σ H) ∨ (J.go i H/\∃N:St->Hp->Prop,(∀σ' H',N σ' H'->∃m',m' < m/\W (i+1) m' σ' H')/\∀x H',J.yld i H x H'->g x σ H' λσ2 H2=>tb { D with nx:=N,ct:=N,bk:=D.nx } σ2 H2)
def tFor (wi:TI)(g:TG)(tb:TS):TS:=λD σ H=>wi σ H (tFor.K0 g tb D σ)
def hE (fp:List Addr)(h:Heap):List (Addr×Obj):=fp.filterMap λb=>(h.get? b).map λo=>(b,o)
def c0 {fp:List Addr}{h:Heap}{b:Addr}{o:Obj}(hb:b∈fp)(e:h.get? b=some o):(b,o)∈hE fp h:=List.mem_filterMap.mpr ⟨b,hb,by rw[e];rfl⟩
def ox {fp:List Addr}{h:Heap}{p:Addr×Obj}(hp:p∈hE fp h):p.1∈fp/\h.get? p.1=some p.2:=by
 obtain⟨b,hb,e⟩:=List.mem_filterMap.mp hp;cases q:h.get? b with
 |none=>rw[q] at e;cases e
 |some o=>
  rw[q] at e;have e':(b,o)=p:=Option.some.inj e;subst e';exact⟨hb,q⟩
def Inv.pinned {w9:List (Addr×Obj)}{σ:St}{H:Hp}{s:Shared}{fp:List Addr}(I:Inv X w9 σ H s)(hf:∀b∈fp,FpOk X w9 H b)(ho:∀b∈fp,∃o,s.heap.get? b=some o/\∀v,o.data ≠ .cell v):Inv X (w9++hE fp s.heap) σ H s:=
 I.pins_of λp hp=>(l21.mp hp).elim (λz=>I.pin p (l34 _ z)) λz=>by
  obtain⟨hb,e⟩:=ox z;obtain⟨f0,f1,f2,_⟩:=hf p.1 hb;obtain⟨o,e',d⟩:=ho p.1 hb;rw[e] at e';cases e';exact⟨e,f0,f1,f2,d⟩
def Inv.unpinned {w9 pl:List (Addr×Obj)}{σ:St}{H:Hp}{s:Shared}(I:Inv X (w9++pl) σ H s):Inv X w9 σ H s:=I.pins_of λp hp=>I.pin p (l34 _ (l49 _ hp))
def wn {iter:Expr}{body:List Stmt}{wi:TI}{g:TG}{tb:TS}{pos:Pos}(hp:PassesOwn (model X.prog X.w) X.A X.env X.xe)(hc:X.calm=true)(hi:PI X tg iter wi)(hg:PG X tg g)(hb:PSs X body tb)
  (hs:∀x,foldedSetIterable iter X.env x=pure x:=by intro _;rfl):PS X (.For tg iter body [] pos) (tFor wi g tb):=by
 intro w9 s σ H D I h;refine wpAny_For (thn (hi w9 s σ H _ I h) λv s1 h1=>thn h1 λitv s2 h2=>?_) hs;obtain⟨it,fp,tn,J,H2,e,I2,T,st2,f2,W,⟨m0,w0⟩,turn⟩:=h2;subst e;have stat:∀{H':Hp},(∀b∈fp,H' b=none)->∀b∈fp,FpOk X w9 H' b:=λhn b hb=>⟨hn b hb,(f2 b hb).2⟩;refine codeAny_forLoop_any (λn s'=>∃i σ' H',Inv X w9 σ' H' s'/\tn i s'.heap/\(∀b∈fp,H' b=none)/\W i n σ' H') ?_ m0 ⟨0,σ,H2,I2,st2,λb hb=>(f2 b hb).1,w0⟩;rintro n s3 ⟨i,σ3,H3,I3,st3,fr3,w3⟩;rcases turn i n σ3 H3 w3 with ⟨stop,qn⟩ |⟨go,N,hN,step⟩
 ·refine wpAny_passesOwn hp (thn (T.done X rfl rfl rfl hc i w9 s3 σ3 H3 X.xe I3 (stat fr3) st3 stop) λr s4 ⟨hr,I4⟩=>?_);subst hr;exact wpAny_execs_nil ⟨σ3,H3,I4,qn⟩
 ·refine wpAny_passesOwn hp (thn (T.item X rfl rfl rfl hc i w9 s3 σ3 H3 X.xe I3 (stat fr3) st3 go) λr s4 ⟨u,hr,h4⟩=>?_);subst hr;refine wpAny_passesOwn hp (thn h4 λ_ s5 ⟨x,H5,I5,r5,y5,st5,fr5⟩=>?_);have I5':=I5.pinned (stat fr5) (T.obj _ _ st5);refine wpAny_passesOwn hp (thn (hg _ s5 σ3 H5 x u _ I5' r5 (step x H5 y5)) λ_ s6 ⟨σ6,H6,I6,q6⟩=>?_);refine wpAny_passesOwn hp (thn (hb _ s6 σ6 H6 _ I6 q6) λf s7 q7=>?_);have again:∀{σ7:St} {H7:Hp},Inv X (w9++hE fp s5.heap) σ7 H7 s7->N σ7 H7->∃m,m < n/\∃i σ' H',Inv X w9 σ' H' s7/\tn i s7.heap/\(∀b∈fp,H' b=none)/\W i m σ' H':=λ{σ7 H7} I7 n7=>by
   obtain⟨m',hm,w7⟩:=hN σ7 H7 n7;refine⟨m',hm,i+1,σ7,H7,I7.unpinned,T.keep _ _ _ st5 λb hb o e=>(I7.pin (b,o) (l34 _ (l34 _ (c0 hb e)))).1,λb hb=>?_,w7⟩;obtain⟨o,e,d⟩:=T.obj _ _ st5 b hb;exact(I7.pin (b,o) (l34 _ (l34 _ (c0 hb e)))).2.1
  cases f with
  |next=>obtain⟨σ7,H7,I7,n7⟩:=q7;exact again I7 n7
  |cont=>obtain⟨σ7,H7,I7,n7⟩:=q7;exact again I7 n7
  |brk=>obtain⟨σ7,H7,I7,q7⟩:=q7;exact⟨σ7,H7,I7.unpinned,q7⟩
  |ret v=>obtain⟨x7,σ7,H7,I7,r7,q7⟩:=q7;exact⟨x7,σ7,H7,I7.unpinned,r7,q7⟩
end
def cw {K:Frag}{a:Addr}{xs:List V}{g:TG}{tb:TS}{D:Ends}{σ:St}{H:Hp}(Pv:Nat->St->Hp->Prop)(h0:Pv 0 σ H)(hl:∀i σ H,i<=xs.length->Pv i σ H->SqL K H a xs)
  (hs:∀i x σ H,xs[i]? = some x->Pv i σ H->g x σ H λσ2 H2=>tb { D with nx:=Pv (i+1),ct:=Pv (i+1),bk:=D.nx } σ2 H2) (hd:∀σ H,Pv xs.length σ H->D.nx σ H):
  ∃W:Nat->Nat->St->Hp->Prop,(∃m,W 0 m σ H)/\∀i m σ H,W i m σ H →
   ((Itl K a).stop i H/\D.nx σ H) ∨ ((Itl K a).go i H/\∃N:St->Hp->Prop,(∀σ' H',N σ' H'->∃m',m' < m/\W (i+1) m' σ' H')/\∀x H',(Itl K a).yld i H x H'->g x σ H' λσ2 H2=>tb { D with nx:=N,ct:=N,bk:=D.nx } σ2 H2):=by
 refine⟨λi m σ H=>m=xs.length - i/\i<=xs.length/\Pv i σ H,⟨xs.length,by simp,l10 _,h0⟩,?_⟩;rintro i m σ H ⟨rfl,hi,p⟩;have q:=hl i σ H hi p;by_cases hlt:i < xs.length
 ·refine .inr ⟨⟨xs,xs[i],q,by simp[hlt]⟩,Pv (i+1),λσ' H' p'=>⟨xs.length - (i+1),by omega,rfl,hlt,p'⟩,λx H' y=>?_⟩;obtain⟨e,y⟩:=y;subst e;exact hs i x σ _ (y xs q) p
 ·have e:i=xs.length:=by omega
  subst e;exact .inl ⟨⟨xs,q,l5 _⟩,hd σ H p⟩
def bP {lo:Int}{n:Nat}{g:TG}{tb:TS}{D:Ends}{σ:St}{H:Hp}(Pv:Nat->St->Hp->Prop)(h0:Pv 0 σ H)
  (hs:∀i σ H,i < n->Pv i σ H->g (.int (lo+i)) σ H λσ2 H2=>tb { D with nx:=Pv (i+1),ct:=Pv (i+1),bk:=D.nx } σ2 H2) (hd:∀σ H,Pv n σ H->D.nx σ H):
  ∃W:Nat->Nat->St->Hp->Prop,(∃m,W 0 m σ H)/\∀i m σ H,W i m σ H →
   ((Itr lo n).stop i H/\D.nx σ H) ∨ ((Itr lo n).go i H/\∃N:St->Hp->Prop,(∀σ' H',N σ' H'->∃m',m' < m/\W (i+1) m' σ' H')/\∀x H',(Itr lo n).yld i H x H'->g x σ H' λσ2 H2=>tb { D with nx:=N,ct:=N,bk:=D.nx } σ2 H2):=by
 refine⟨λi m σ H=>m=n - i/\i<=n/\Pv i σ H,⟨n,by simp,l10 _,h0⟩,?_⟩;rintro i m σ H ⟨rfl,hi,p⟩;by_cases hlt:i < n
 ·refine .inr ⟨hlt,Pv (i+1),λσ' H' p'=>⟨n - (i+1),by omega,rfl,hlt,p'⟩,λx H' y=>?_⟩;obtain⟨e,y⟩:=y;subst e y;exact hs i σ _ hlt p
 ·have e:i=n:=by omega
  subst e;exact .inl ⟨l5 _,hd σ H p⟩
abbrev R2:=V->V->Hp->VK->Prop
def OpR (X:Cx)(f:Value->Value->Sem Value)(r:R2):Prop:=
 ∀(w9:List (Addr×Obj)) (s:Shared) (σ:St) (H:Hp) (x y:V) (v u:Value) (Q:VK),Inv X w9 σ H s->RelV x v->RelV y u->r x y H Q →
  wpAny (model X.prog X.w) X.A (f v u) (EP X w9 σ Q) X.xe s
def UnR (X:Cx)(f:Value->Sem Value)(r:V->Hp->VK->Prop):Prop:=
 ∀(w9:List (Addr×Obj)) (s:Shared) (σ:St) (H:Hp) (x:V) (v:Value) (Q:VK),Inv X w9 σ H s->RelV x v->r x H Q →
  wpAny (model X.prog X.w) X.A (f v) (EP X w9 σ Q) X.xe s
def cQ (X:Cx)(f:Value)(r:List V->Hp->VK->Prop):Prop:=
 ∀(w9:List (Addr×Obj)) (s:Shared) (σ:St) (H:Hp) (xs:List V) (us:List Value) (Q:VK),Inv X w9 σ H s->Vals xs us->r xs H Q →
  wpAny (model X.prog X.w) X.A (call f us) (EP X w9 σ Q) X.xe s
abbrev tOp.K1 (r:R2) (Q:VK) (x:V) (y:V) (H2:Hp):Prop:=r x y H2 Q
abbrev tOp.K0 (r:R2) (tb:TE) (σ:St) (Q:VK) (x:V) (H1:Hp):Prop:=tb σ H1 (tOp.K1 r Q x)
def tOp (r:R2)(ta tb:TE):TE:=λσ H Q=>ta σ H (tOp.K0 r tb σ Q)
abbrev tUn.K0 (r:V->Hp->VK->Prop) (Q:VK) (x:V) (H1:Hp):Prop:=r x H1 Q
def tUn (r:V->Hp->VK->Prop)(ta:TE):TE:=λσ H Q=>ta σ H (tUn.K0 r Q)
inductive rI (C:Int->Int->Prop)(g:Int->Int->V)(x y:V)(H:Hp)(Q:VK):Prop
 |mk (i j)(_:x = .int i)(_:y = .int j)(_:C i j)(_:Q (g i j) H)
inductive rI0 (g:Int->Int->V)(x y:V)(H:Hp)(Q:VK):Prop
 |mk (i j)(_:x = .int i)(_:y = .int j)(_:Q (g i j) H)
inductive rU (g:Int->V)(x:V)(H:Hp)(Q:VK):Prop
 |mk (i)(_:x = .int i)(_:Q (g i) H)
section
variable {X:Cx}{a b c:Expr}{ta tb tc:TE}{pos:Pos}
def binT (ha:PE X a ta)(hb:PE X b tb){w9:List (Addr×Obj)}{s:Shared}{σ:St}{H:Hp}{R:V->V->Hp->Prop}(I:Inv X w9 σ H s)
  (h:ta σ H λx H1=>tb σ H1 λy H2=>R x y H2){Q:Value->Shared->Prop}{f:Value->Value->Sem Value}
  (hf:∀v u s2 x y H2,Inv X w9 σ H2 s2->RelV x v->RelV y u->R x y H2->wpAny (model X.prog X.w) X.A (f v u) Q X.xe s2):
  wpAny (model X.prog X.w) X.A (eval a X.env) (λv s₁=>wpAny (model X.prog X.w) X.A (eval b X.env) (λu s₂=>wpAny (model X.prog X.w) X.A (f v u) Q X.xe s₂) X.xe s₁) X.xe s:=by
 refine thn (ha w9 s σ H _ I h) λv s1 ⟨x,H1,I1,r1,q1⟩=>?_;refine thn (hb w9 s1 σ H1 _ I1 q1) λu s2 ⟨y,H2,I2,r2,q2⟩=>?_;exact hf v u s2 x y H2 I2 r1 r2 q2
def xL {op:Operator}{r:R2}(ho:OpR X (binaryOp op) r)(ha:PE X a ta)(hb:PE X b tb):PE X (.BinOp a op b pos) (tOp r ta tb):=by
 intro w9 s σ H Q I h;exact wpAny_BinOp (binT ha hb I h λv u s2 x y H2 I2 rx ry q=>ho w9 s2 σ H2 x y v u Q I2 rx ry q)
def xM {op:UnaryOp}{r:V->Hp->VK->Prop}(ho:UnR X (unaryOp op) r)(ha:PE X a ta):PE X (.UnaryOp op a pos) (tUn r ta):=by
 intro w9 s σ H Q I h;exact UnaryOp_ (thn (ha w9 s σ H _ I h) λv s1 ⟨x,H1,I1,r1,q1⟩=>ho w9 s1 σ H1 x v Q I1 r1 q1)
def opI {f:Value->Value->Sem Value}{C:Int->Int->Prop}{g:Int->Int->Int}
  (rule:∀(i j:Int)(t u:Tok)(s:Shared)(Q:Value->Shared->Prop)(E:Value->Shared->Prop),C i j->Q (.int (g i j) s.toks) { s with toks:=s.toks+1 }->wpAny (model X.prog X.w) X.A (f (.int i t) (.int j u)) Q E s):
  OpR X f (rI C λi j => .int (g i j)):=by
 intro w9 s σ H x y v u Q I rx ry h;obtain⟨i,j,rfl,rfl,hc,q⟩:=h;obtain⟨t,rfl⟩:=rx;obtain⟨t',rfl⟩:=ry;exact rule i j t t' s _ _ hc ⟨.int (g i j),H,I.tok _,⟨_,rfl⟩,q⟩
def opI0 {f:Value->Value->Sem Value}{g:Int->Int->Int}
  (rule:∀(i j:Int)(t u:Tok)(s:Shared)(Q:Value->Shared->Prop)(E:Value->Shared->Prop),Q (.int (g i j) s.toks) { s with toks:=s.toks+1 }->wpAny (model X.prog X.w) X.A (f (.int i t) (.int j u)) Q E s):
  OpR X f (rI0 λi j => .int (g i j)):=by
 intro w9 s σ H x y v u Q I rx ry h;obtain⟨i,j,rfl,rfl,q⟩:=h;obtain⟨t,rfl⟩:=rx;obtain⟨t',rfl⟩:=ry;exact rule i j t t' s _ _ ⟨.int (g i j),H,I.tok _,⟨_,rfl⟩,q⟩
def opB0 {f:Value->Value->Sem Value}{g:Int->Int->Bool}
  (rule:∀(i j:Int)(t u:Tok)(s:Shared)(Q:Value->Shared->Prop)(E:Value->Shared->Prop),Q (.bool (g i j)) s->wpAny (model X.prog X.w) X.A (f (.int i t) (.int j u)) Q E s):
  OpR X f (rI0 λi j => .bl (g i j)):=by
 intro w9 s σ H x y v u Q I rx ry h;obtain⟨i,j,rfl,rfl,q⟩:=h;obtain⟨t,rfl⟩:=rx;obtain⟨t',rfl⟩:=ry;exact rule i j t t' s _ _ ⟨.bl (g i j),H,I,rfl,q⟩
def CDiv (i j:Int):Prop:=0 < j/\j < 1073741824
def CMul (i j:Int):Prop:=(-(2 ^ 64) < i/\i < 2 ^ 64) ∨ (-(2 ^ 64) < j/\j < 2 ^ 64)
def CMul.ok {i j:Int}(h:CMul i j):IntMulOk i j:=by
 rcases h with ⟨h1,h2⟩ |⟨h1,h2⟩
 ·exact .of_left (intBits_le_64 h1 h2)
 ·exact .of_right (intBits_le_64 h1 h2)
def au:OpR X (binaryOp .Add) (rI0 λi j => .int (i+j)):=opI0 λ_ _ _ _ _ _ _ q=>add_int q
def bp:OpR X (binaryOp .Sub) (rI0 λi j => .int (i - j)):=opI0 λ_ _ _ _ _ _ _ q=>sub_int q
def fU:OpR X (binaryOp .Mult) (rI CMul λi j => .int (i * j)):=opI λ_ _ _ _ _ _ _ hc q=>mul_int q hc.ok
def cx:OpR X (binaryOp .FloorDiv) (rI CDiv λi j => .int (i / j)):=opI λi j _ _ _ _ _ hc q=>by
 have h1:(0:Int) < j:=hc.1;have h2:j < 1073741824:=hc.2;exact floordiv_int nofun (by rw[Int.fdiv_eq_ediv_of_nonneg i nofun];exact q) (.inl (PyProof.noPylong_small nofun))
def bq:OpR X (binaryOp .Mod) (rI (λ_ j=>0 < j) λi j => .int (i % j)):=opI λi j _ _ _ _ _ hc q=>by
 have h1:(0:Int) < j:=hc;exact mod_int' nofun (by rw[Int.fmod_eq_emod_of_nonneg i nofun];exact q)
def unI {f:Value->Sem Value}{g:Int->Int}
  (rule:∀(i:Int)(t:Tok)(s:Shared)(Q:Value->Shared->Prop)(E:Value->Shared->Prop),Q (.int (g i) s.toks) { s with toks:=s.toks+1 }->wpAny (model X.prog X.w) X.A (f (.int i t)) Q E s):
  UnR X f (rU λi => .int (g i)):=by
 intro w9 s σ H x v Q I rx h;obtain⟨i,rfl,q⟩:=h;obtain⟨t,rfl⟩:=rx;exact rule i t s _ _ ⟨.int (g i),H,I.tok _,⟨_,rfl⟩,q⟩
def fV:UnR X (unaryOp .USub) (rU λi => .int (-i)):=unI λ_ _ _ _ _ q=>neg_int q
end
def scal:V->V->Bool
 | .non, .non=>true | .non, .int _=>true | .int _, .non=>true | .non, .bl _=>true | .bl _, .non=>true | .non, .str _=>true | .str _, .non=>true
 | .int _, .int _=>true | .bl _, .bl _=>true | .str _, .str _=>true | .byt _, .byt _=>true
 | .int _, .str _=>true | .str _, .int _=>true | .bl _, .str _=>true | .str _, .bl _=>true
 |_,_=>false
inductive rEq (x y:V)(H:Hp)(Q:VK):Prop
 |mk (_:scal x y=true)(_:Q (.bl (decide (x=y))) H)
inductive rNe (x y:V)(H:Hp)(Q:VK):Prop
 |mk (_:scal x y=true)(_:Q (.bl (!decide (x=y))) H)
def kM {i j:Int}:decide (V.int i=V.int j)=(i==j):=by
 rw[Bool.eq_iff_iff];simp
def tq {i j:Bool}:decide (V.bl i=V.bl j)=(i==j):=by
 rw[Bool.eq_iff_iff];simp
def oy {i j:Str}:decide (V.str i=V.str j)=(i==j):=by
 rw[Bool.eq_iff_iff];simp
def oz {i j:Array UInt8}:decide (V.byt i=V.byt j)=(i.toList==j.toList):=by
 rw[Bool.eq_iff_iff];cases i;cases j;simp
section
variable {X:Cx}{a b c:Expr}{ta tb tc:TE}{pos:Pos}
def aM {w9:List (Addr×Obj)}{σ:St}{H:Hp}{s:Shared}{Q:VK}{k k':Bool}(I:Inv X w9 σ H s)(q:Q (.bl k) H)(e:k=k'):EP X w9 σ Q (.bool k') s:=by
 subst e;exact⟨.bl k,H,I,rfl,q⟩
def bx:OpR X (compareOp .Eq) rEq:=by
 intro w9 s σ H x y v u Q I rx ry h;obtain⟨hs,q⟩:=h;cases x with
 |non=>
  cases rx;cases y with
  |non=>cases ry;exact PySem.EqNone.eq_none_none (aM I q (by simp))
  |bl j=>cases ry;exact PySem.EqNone.eq_none_bool (aM I q (by simp))
  |int j=>obtain⟨t',rfl⟩:=ry;exact PySem.EqNone.eq_none_int (aM I q (by simp))
  |str j=>obtain⟨t',rfl⟩:=ry;exact PySem.EqNone.eq_none_str (aM I q (by simp))
  |_=>exact absurd (show false=true from hs) Bool.false_ne_true
 |bl i=>
  cases rx;cases y with
  |non=>cases ry;exact PySem.EqNone.eq_bool_none (aM I q (by simp))
  |bl j=>cases ry;exact eq_bool (aM I q tq)
  |str j=>obtain⟨t',rfl⟩:=ry;exact PySem.EqMixed.eq_bool_str (aM I q (by simp))
  |_=>exact absurd (show false=true from hs) Bool.false_ne_true
 |int i=>
  obtain⟨t,rfl⟩:=rx;cases y with
  |non=>cases ry;exact PySem.EqNone.eq_int_none (aM I q (by simp))
  |int j=>obtain⟨t',rfl⟩:=ry;exact eq_int (aM I q kM)
  |str j=>obtain⟨t',rfl⟩:=ry;exact PySem.EqMixed.eq_int_str (aM I q (by simp))
  |_=>exact absurd (show false=true from hs) Bool.false_ne_true
 |str i=>
  obtain⟨t,rfl⟩:=rx;cases y with
  |non=>cases ry;exact PySem.EqNone.eq_str_none (aM I q (by simp))
  |bl j=>cases ry;exact PySem.EqMixed.eq_str_bool (aM I q (by simp))
  |int j=>obtain⟨t',rfl⟩:=ry;exact PySem.EqMixed.eq_str_int (aM I q (by simp))
  |str j=>obtain⟨t',rfl⟩:=ry;exact eq_str (aM I q oy)
  |_=>exact absurd (show false=true from hs) Bool.false_ne_true
 |byt i=>
  obtain⟨t,rfl⟩:=rx;cases y with
  |byt j=>obtain⟨t',rfl⟩:=ry;exact PySem.W.eq_bytes (aM I q oz)
  |_=>exact absurd (show false=true from hs) Bool.false_ne_true
 |_=>cases y <;> exact absurd (show false=true from hs) Bool.false_ne_true
def gV:OpR X (compareOp .NotEq) rNe:=by
 intro w9 s σ H x y v u Q I rx ry h;obtain⟨hs,q⟩:=h;cases x with
 |non=>
  cases rx;cases y with
  |non=>cases ry;exact PySem.EqNone.ne_none_none (aM I q (by simp))
  |bl j=>cases ry;exact PySem.EqNone.ne_none_bool (aM I q (by simp))
  |int j=>obtain⟨t',rfl⟩:=ry;exact PySem.EqNone.ne_none_int (aM I q (by simp))
  |str j=>obtain⟨t',rfl⟩:=ry;exact PySem.EqNone.ne_none_str (aM I q (by simp))
  |_=>exact absurd (show false=true from hs) Bool.false_ne_true
 |bl i=>
  cases rx;cases y with
  |non=>cases ry;exact PySem.EqNone.ne_bool_none (aM I q (by simp))
  |bl j=>cases ry;exact ne_bool (aM I q (congrArg not tq))
  |str j=>obtain⟨t',rfl⟩:=ry;exact PySem.EqMixed.ne_bool_str (aM I q (by simp))
  |_=>exact absurd (show false=true from hs) Bool.false_ne_true
 |int i=>
  obtain⟨t,rfl⟩:=rx;cases y with
  |non=>cases ry;exact PySem.EqNone.ne_int_none (aM I q (by simp))
  |int j=>obtain⟨t',rfl⟩:=ry;exact ne_int (aM I q (congrArg not kM))
  |str j=>obtain⟨t',rfl⟩:=ry;exact PySem.EqMixed.ne_int_str (aM I q (by simp))
  |_=>exact absurd (show false=true from hs) Bool.false_ne_true
 |str i=>
  obtain⟨t,rfl⟩:=rx;cases y with
  |non=>cases ry;exact PySem.EqNone.ne_str_none (aM I q (by simp))
  |bl j=>cases ry;exact PySem.EqMixed.ne_str_bool (aM I q (by simp))
  |int j=>obtain⟨t',rfl⟩:=ry;exact PySem.EqMixed.ne_str_int (aM I q (by simp))
  |str j=>obtain⟨t',rfl⟩:=ry;exact ne_str (aM I q (congrArg not oy))
  |_=>exact absurd (show false=true from hs) Bool.false_ne_true
 |byt i=>
  obtain⟨t,rfl⟩:=rx;cases y with
  |byt j=>obtain⟨t',rfl⟩:=ry;exact PySem.W.ne_bytes (aM I q (congrArg not oz))
  |_=>exact absurd (show false=true from hs) Bool.false_ne_true
 |_=>cases y <;> exact absurd (show false=true from hs) Bool.false_ne_true
def dL:OpR X (compareOp .Lt) (rI0 λi j => .bl (decide (i < j))):=opB0 λ_ _ _ _ _ _ _ q=>lt_int q
def xN:OpR X (compareOp .LtE) (rI0 λi j => .bl (decide (i<=j))):=opB0 λ_ _ _ _ _ _ _ q=>le_int q
def oA:OpR X (compareOp .Gt) (rI0 λi j => .bl (decide (j < i))):=opB0 λ_ _ _ _ _ _ _ q=>gt_int q
def oB:OpR X (compareOp .GtE) (rI0 λi j => .bl (decide (j<=i))):=opB0 λ_ _ _ _ _ _ _ q=>ge_int q
inductive R_op_in_str (x y:V)(H:Hp)(Q:VK):Prop
 |mk (i j)(_:x = .str i)(_:y = .str j)(_:Q (.bl (!(Builtin.Str.occurrences j i 0 j.length 1).isEmpty)) H)
def dM:OpR X (compareOp .In) R_op_in_str:=by
 intro w9 s σ H x y v u Q I rx ry h;obtain⟨i,j,rfl,rfl,q⟩:=h;obtain⟨t,rfl⟩:=rx;obtain⟨t',rfl⟩:=ry;exact in_str (aM I q rfl)
inductive R_op_isN (x y:V)(H:Hp)(Q:VK):Prop
 |mk (_:y = .non)(_:Q (.bl (decide (x = .non))) H)
def tu:OpR X (compareOp .Is) R_op_isN:=by
 intro w9 s σ H x y v u Q I rx ry h;obtain⟨rfl,q⟩:=h;cases ry;refine is_none_gen (aM I q ?_);cases x <;> first
  |(cases rx;rfl)
  |(obtain⟨t,rfl⟩:=rx;rfl)
inductive R_op_notN (x y:V)(H:Hp)(Q:VK):Prop
 |mk (_:y = .non)(_:Q (.bl (!decide (x = .non))) H)
def fg:OpR X (compareOp .IsNot) R_op_notN:=by
 intro w9 s σ H x y v u Q I rx ry h;obtain⟨rfl,q⟩:=h;cases ry;refine isnot_none_gen (aM I q ?_);cases x <;> first
  |(cases rx;rfl)
  |(obtain⟨t,rfl⟩:=rx;rfl)
def al (b:Expr){op:CmpOp}(h:op ≠ .In:=by decide) (h2:op ≠ .NotIn:=by decide):behindInMarks op b=false:=by
 have e1:(op==CmpOp.In)=false:=by cases op <;> first |rfl |exact absurd rfl h
 have e2:(op==CmpOp.NotIn)=false:=by cases op <;> first |rfl |exact absurd rfl h2
 cases b <;> simp[behindInMarks,e1,e2]
def uq {op:CmpOp}{r:R2}(ho:OpR X (compareOp op) r)(ha:PE X a ta)(hb:PE X b tb)(hm:behindInMarks op b=false):PE X (.Compare a [op] [b] pos) (tOp r ta tb):=by
 intro w9 s σ H Q I h;exact wpAny_Compare1 (binT ha hb I h λv u s2 x y H2 I2 rx ry q=>ho w9 s2 σ H2 x y v u Q I2 rx ry q) hm
inductive tTest.I (Q:(Bool->Hp->Prop))(x:V)(H':Hp):Prop
 |mk (k)(_:x = .bl k)(_:Q k H')
def tTest (t:TE):TT:=λσ H Q=>t σ H (tTest.I Q)
def ur {op:CmpOp}{r:R2}(ho:OpR X (compareOp op) r)(ha:PE X a ta)(hb:PE X b tb)(hm:behindInMarks op b=false):PT X (.Compare a [op] [b] pos) (tTest (tOp r ta tb)):=by
 intro w9 s σ H Q I h;refine wpAny_isTrue_Compare1 (thn (ha w9 s σ H _ I h) λv s1 ⟨x,H1,I1,r1,q1⟩=>thn (hb w9 s1 σ H1 _ I1 q1) λu s2 ⟨y,H2,I2,r2,q2⟩=>
  thn (ho w9 s2 σ H2 x y v u _ I2 r1 r2 q2) λc s3 ⟨z,H3,I3,r3,k,e,q3⟩=>?_) hm
 subst e;cases r3;exact wpAny_truthy_bool ⟨H3,I3,q3⟩
def hJ:(sizeLine:Nat) < 2 ^ 63:=by rw[sizeLine_eq];decide
inductive R_op_add_str (x y:V)(H:Hp)(Q:VK):Prop
 |mk (i j)(_:x = .str i)(_:y = .str j)(_:i.length+j.length<=sizeLine)(_:Q (.str (i++j)) H)
def aJ:OpR X (binaryOp .Add) R_op_add_str:=by
 intro w9 s σ H x y v u Q I rx ry h;obtain⟨i,j,rfl,rfl,hz,q⟩:=h;obtain⟨t,rfl⟩:=rx;obtain⟨t',rfl⟩:=ry;exact wpAny_with_toks (n:=1) I.tk (add_str (λt' tk htk=>⟨.str (i++j),H,I.tok _ htk,⟨_,rfl⟩,q⟩) hz)
def iA {x:V}{us:List Value}(r:Vals [x] us):∃u,us=[u]/\RelV x u:=by
 cases r with
 |cons r1 r2=>cases r2;exact⟨_,rfl,r1⟩
def ut {x y:V}{us:List Value}(r:Vals [x,y] us):∃u w',us=[u,w']/\RelV x u/\RelV y w':=by
 cases r with
 |cons r1 r2=>
  cases r2 with
  |cons r3 r4=>cases r4;exact⟨_,_,rfl,r1,r3⟩
inductive R_call_max2 (xs:List V)(H:Hp)(Q:VK):Prop
 |mk (i j)(_:xs=[.int i, .int j])(_:Q (.int (if j > i then j else i)) H)
def jA (hc:X.calm=true):cQ X (.builtin "max") R_call_max2:=by
 intro w9 s σ H xs us Q I r h;obtain⟨i,j,rfl,q⟩:=h;obtain⟨u,w',rfl,⟨t,rfl⟩,⟨t',rfl⟩⟩:=ut r;refine wpAny_with_toks (n:=1) I.tk (max_two_ints (I.ok.hd hc) λh' tk k htk=>⟨_,H,I.kept k htk,?_,q⟩);by_cases hj:j > i
 ·rw[if_pos hj,if_pos hj];exact⟨_,rfl⟩
 ·rw[if_neg hj,if_neg hj];exact⟨_,rfl⟩
inductive R_call_min2 (xs:List V)(H:Hp)(Q:VK):Prop
 |mk (i j)(_:xs=[.int i, .int j])(_:Q (.int (if j < i then j else i)) H)
def fW (hc:X.calm=true):cQ X (.builtin "min") R_call_min2:=by
 intro w9 s σ H xs us Q I r h;obtain⟨i,j,rfl,q⟩:=h;obtain⟨u,w',rfl,⟨t,rfl⟩,⟨t',rfl⟩⟩:=ut r;refine wpAny_with_toks (n:=1) I.tk (min_two_ints (I.ok.hd hc) λh' tk k htk=>⟨_,H,I.kept k htk,?_,q⟩);by_cases hj:j < i
 ·rw[if_pos hj,if_pos hj];exact⟨_,rfl⟩
 ·rw[if_neg hj,if_neg hj];exact⟨_,rfl⟩
def oC:cQ X (.type "int") (λxs H Q=>(∃i,xs=[.int i]/\Q (.int i) H) ∨ ∃k,xs=[.bl k]/\Q (.int (if k then 1 else 0)) H):=by
 intro w9 s σ H xs us Q I r h;rcases h with ⟨i,rfl,q⟩ |⟨k,rfl,q⟩
 ·obtain⟨u,rfl,t,rfl⟩:=iA r;exact call_int_int ⟨.int i,H,I,⟨_,rfl⟩,q⟩
 ·obtain⟨u,rfl,r1⟩:=iA r;cases r1;exact call_int_bool ⟨.int (if k then 1 else 0),H,I.tok _,⟨_,rfl⟩,q⟩
inductive R_call_str_int (xs:List V)(H:Hp)(Q:VK):Prop
 |mk (i)(_:xs=[.int i])(_:i.natAbs.log2 < 1920)(_:Q (.str (toString i)) H)
def fu:cQ X (.type "str") R_call_str_int:=by
 intro w9 s σ H xs us Q I r h;obtain⟨i,rfl,hz,q⟩:=h;obtain⟨u,rfl,t,rfl⟩:=iA r;exact PySem.P.str_of_int hz ⟨.str _,H,I.tok _,⟨_,rfl⟩,q⟩
end
structure ObjM (h:Heap)(x dx C:Addr)(mA:Str->Option Value):Prop where
 obj:h.get? x=some (instObj C dx)
 ns:h.Ns1 dx mA
 ne:dx≠x
def oE {h:Heap}{dx:Addr}{mA:Str->Option Value}(n:h.Ns1 dx mA):∃od,h.get? dx=some od/\∀name,lookIn name od=some (mA name):=by
 obtain⟨o,es,ep,ho,hd,hk,_,hm⟩:=n;refine⟨o,ho,λname=>?_⟩;have e:=hm name;unfold nsFind findBy at e;rw[<- Array.find?_toList] at e;unfold lookIn;rw[hd]
 try dsimp only
 split
 ·rename_i y q;rw[q] at e;exact congrArg some e
 ·rename_i q;rw[q] at e;have a:es.toList.any (·.refKey)=false:=by
   rw[List.any_eq_false];intro y hy;obtain⟨z,t,hkey⟩:=hk y (Array.mem_toList_iff.mp hy);simp[DictEntry.refKey,hkey]
  have a':¬ es.toList.any (·.refKey)=true:=by rw[a];exact Bool.false_ne_true
  rw[if_neg a'];exact congrArg some e
def ObjM.look {h:Heap}{x dx C:Addr}{mA:Str->Option Value}(I:ObjM h x dx C mA):∃od,PySem.W.InstAt h x (instObj C dx) C (some od)/\∀name,lookIn name od=some (mA name):=
 let ⟨od,ho,hl⟩:=oE I.ns
 ⟨od,⟨I.obj,rfl,rfl,ho⟩,hl⟩
section
variable {prog:Program}{w:World}{A:Around}{E:Value->Shared->Prop}{s:Shared}{K:Frag}{x dx C f:Addr}{mA:Str->Option Value}{name:Str}{v:Value}
def uu {expr:Bool}{Q:Value->Shared->Prop}(X:K.In s.heap)(I:ObjM s.heap x dx C mA)(hg:plainGet K C name=true)(hh:hasDictIn K C=true)
  (ha:findIn K (.ref C) name=some none)(hv:mA name=some v)(hv':handedIn v=true)(h:Q v { s with toks:=s.toks+1 }):
  wpAny (model prog w) A (getAttr (.ref x) name expr) Q E s:=by
 obtain⟨od,J,hl⟩:=I.look;exact PySem.W.get_value X J (plainGet_of hg).1 (PySem.W.findObj_own hh ha rfl (by rw[hl,hv])) hv' h
def rm {pl:Sem Bool}{Q:Value×List Value->Shared->Prop}(X:K.In s.heap)(I:ObjM s.heap x dx C mA)(hg:plainGet K C name=true)
  (hf:findIn K (.ref C) name=some (some (.ref f)))(ht:isFn K (.ref f)=true)(hv:mA name=none)(h:Q (.ref f,[.ref x]) s):
  wpAny (model prog w) A (getMethod (.ref x) name pl) Q E s:=by
 obtain⟨od,J,hl⟩:=I.look;exact PySem.W.method_fn X J (plainGet_of hg).1 (plainGet_of hg).2 hf (beq_iff_eq.mp ht) (by show (lookIn name od).map (·.isSome)=some false;rw[hl,hv];rfl) h
def uv {ns:List Str}{Q:Unit->Shared->Prop}(X:K.In s.heap)(I:ObjM s.heap x dx C mA)
  (hs:findIn K (.ref C) "__setattr__"=some (some (.builtin "object.__setattr__")))(hp:plainOver K C=true)(ht:takerIn K C name=some none)(hh:hasDictIn K C=true)
  (hw:PySem.Within mA ns)(hsz:ns.length<=sizeLine)
  (h:∀h',ObjM h' x dx C (λy=>if y=name then some v else mA y)->Heap.SameBut dx s.heap h'->Q () { s with heap:=h',toks:=s.toks+2 }):
  wpAny (model prog w) A (setAttr (.ref x) name v) Q E s:=by
 obtain⟨od,J,hl⟩:=I.look;refine PySem.W.set_plain X J hs (PySem.W.osa_open (s:={ s with toks:=s.toks+1 }) (r:=none) X J hp ht λb=>?_);obtain⟨cd,hc,hd'⟩:=PySem.W.any_some hh;have hx:s.heap.get? x=some ⟨.ref C,some dx, .plain,#[]⟩:=I.obj;refine wpAny_bind (wpAny_pure (wpAny_bind (wpAny_bind (wpAny_loadPart hx (wpAny_bind (PySem.W.Looks.here (s:={ s with toks:=s.toks+1 }) (PySem.W.looks_clsIn X hc) ?_))))));rw[hd'];refine wpAny_pure (a:=some dx) (wpAny_bind (wpAny_pure (wpAny_bind ?_)));refine wpAny_nsSet1 (s:={ s with toks:=s.toks+1 }) I.ns λh' hn2 hs2=>?_;obtain⟨oD,esD,epD,hoD,hdD,hcD⟩:=hn2.count (PySem.Within.cons name v hw);refine wpAny_bind (wpAny_lookBehind hoD (by rw[hdD];exact pastItsLine_dict (l11 hcD (by rw[l4];omega))) ?_);exact wpAny_pure (h _ ⟨(hs2.2 _ (Ne.symm I.ne)).trans I.obj,hn2,I.ne⟩ hs2)
def rn {R:Result->Shared->Prop}{vs:List Value}{kw:List (Str×Value)}(X:K.In s.heap)(hm:makesIn K C=true)
  (hi:findIn K (.ref C) "__init__"=some (some (.ref f)))(hf:PySem.W.typeIn K (.ref f)=some (.type "function"))
  (h:codeAny (model prog w) (A.under (.builtin "type.__call__" ⟨.ref C::vs,kw⟩)) (.call (.ref f) ⟨.ref (s.heap.objs.size+1)::vs,kw⟩) (PySem.W.InitBack (s.heap.objs.size+1) R)
   { s with heap:=(s.heap.push emptyDict).push (instObj C s.heap.objs.size) }):
  codeAny (model prog w) A (.call (.ref C) ⟨vs,kw⟩) R s:=by
 obtain⟨hh,g,d,t,os⟩:=s;exact PySem.W.make_core (PySem.W.makes_of X hm) (PySem.W.looks_findIn X hi) (λself=>PySem.W.bind_fn X self hf) (.inl rfl) h
end
def putF (f:Str)(v:V):List (Str×V)->List (Str×V)
 | []=>[(f,v)]
 |(g,x)::r=>if g=f then (g,v)::r else (g,x)::putF f v r
theorem fX (f g:Str)(v:V):∀fs:List (Str×V),(putF f v fs).lookup g=if g=f then some v else fs.lookup g
 | []=>by
  show List.lookup g [(f,v)]=_;by_cases h:g=f
  ·have hb:(g==f)=true:=beq_iff_eq.mpr h;simp only[List.lookup,hb,if_pos h]
  ·have hb:(g==f)=false:=beq_eq_false_iff_ne.mpr h;simp only[List.lookup,hb,if_neg h]
 |(k,x)::r=>by
  have ih:=fX f g v r;rw[show putF f v ((k,x)::r)=(if k=f then (k,v)::r else (k,x)::putF f v r) from rfl];by_cases hk:k=f
  ·rw[if_pos hk];by_cases h:g=k
   ·have hb:(g==k)=true:=beq_iff_eq.mpr h;simp only[List.lookup,hb,if_pos (h.trans hk)]
   ·have hb:(g==k)=false:=beq_eq_false_iff_ne.mpr h;simp only[List.lookup,hb,if_neg (λe:g=f=>h (e.trans hk.symm))]
  ·rw[if_neg hk];by_cases h:g=k
   ·have hb:(g==k)=true:=beq_iff_eq.mpr h;simp only[List.lookup,hb,if_neg (λe:g=f=>hk (h.symm.trans e))]
   ·have hb:(g==k)=false:=beq_eq_false_iff_ne.mpr h;simp only[List.lookup,hb];exact ih
theorem fY (f:Str)(v:V):∀fs:List (Str×V),f∈(putF f v fs).map (·.1)/\∀g,g∈fs.map (·.1)->g∈(putF f v fs).map (·.1)
 | []=>⟨by simp[putF],λg h=>by simp at h⟩
 |(k,x)::r=>by
  obtain⟨i1,i2⟩:=fY f v r;rw[show putF f v ((k,x)::r)=(if k=f then (k,v)::r else (k,x)::putF f v r) from rfl];by_cases hk:k=f
  ·rw[if_pos hk];subst hk;exact⟨by simp,λg h=>by simpa using h⟩
  ·rw[if_neg hk];refine⟨?_,λg h=>?_⟩
   ·rw[l12];exact l7 _ i1
   ·rw[l12] at h ⊢;rcases l9.mp h with e |e
    ·exact l9.mpr (.inl e)
    ·exact l7 _ (i2 g e)
theorem fZ (f:Str)(v:V):∀fs:List (Str×V),(putF f v fs).length<=fs.length+1
 | []=>by simp[putF]
 |(k,x)::r=>by
  have ih:=fZ f v r;rw[show putF f v ((k,x)::r)=(if k=f then (k,v)::r else (k,x)::putF f v r) from rfl];by_cases hk:k=f
  ·rw[if_pos hk,l4,l4];omega
  ·rw[if_neg hk,l4,l4];omega
def RelO.some_of {v:V}{o:Option Value}(r:RelO (some v) o):∃u,o=some u/\RelV v u:=by
 cases o with
 |none=>exact(show False from r).elim
 |some u=>exact⟨u,rfl,r⟩
def RelO.none_of {o:Option Value}(r:RelO none o):o=none:=by
 cases o with
 |none=>rfl
 |some u=>exact(show False from r).elim
def oF {v:V}{u:Value}(r:RelV v u):handedIn u=true:=by
 cases v with
 |non=>cases (show u=Value.none from r);rfl
 |bl b=>cases (show u=Value.bool b from r);rfl
 |int i=>obtain⟨t,e⟩:=(show ∃t,u=Value.int i t from r);cases e;rfl
 |str x=>obtain⟨t,e⟩:=(show ∃t,u=Value.str x t from r);cases e;rfl
 |byt b=>obtain⟨t,e⟩:=(show ∃t,u=Value.bytes b t from r);cases e;rfl
 |flt b=>obtain⟨t,e⟩:=(show ∃t,u=Value.float b t from r);cases e;rfl
 |ref a=>cases (show u=Value.ref a from r);rfl
 |ty n=>cases (show u=Value.type n from r);rfl
section
variable {P:Program}{w:World}{H H':Hp}{h h':Heap}{a C dx:Addr}{fs fs':List (Str×V)}
def iB (hok:HOk P w H h)(e:H a=some (.ins C dx fs)):∃mA,ObjM h a dx C mA/\(∀f,RelO (fs.lookup f) (mA f))/\PySem.Within mA (fs.map (·.1))/\fs.length<=1000/\H dx=some (.own a):=by
 obtain⟨d,z,ne,ob,mA,n,r,q⟩:=(show ObjOk P w H h a (.ins C dx fs) from hok a _ e);exact⟨mA,⟨ob,n,ne⟩,r,q,z,d⟩
end
structure Cls (K:Frag)(C:Addr):Prop where
 pg:plainGet K C Str.empty=true
 hd:hasDictIn K C=true
 po:plainOver K C=true
 sa:findIn K (.ref C) "__setattr__"=some (some (.builtin "object.__setattr__"))
def Cls.get {K:Frag}{C:Addr}(c:Cls K C)(f:Str):plainGet K C f=true:=c.pg
def NoAttr (K:Frag)(C:Addr)(f:Str):Prop:=findIn K (.ref C) f=some none
def NoAttr.taker {K:Frag}{C:Addr}{f:Str}(n:NoAttr K C f):takerIn K C f=some none:=by
 unfold takerIn;rw[show findIn K (.ref C) f=some none from n];rfl
structure Meth (K:Frag)(C:Addr)(m:Str)(f:Addr):Prop where
 at_:findIn K (.ref C) m=some (some (.ref f))
 fn:isFn K (.ref f)=true
 kp:keepIn K (.ref f)=true
section
variable {X:Cx}{w9:List (Addr×Obj)}{σ:St}{H:Hp}{s:Shared}{a C dx:Addr}{fs:List (Str×V)}{f:Str}{v:V}{A:Around}{E:Value->Shared->Prop}
def np {b:Bool}{Q:Value->Shared->Prop}(I:Inv X w9 σ H s)(e:H a=some (.ins C dx fs))(c:Cls X.K C)(n:NoAttr X.K C f)(l:fs.lookup f=some v)
  (h:∀u s',Inv X w9 σ H s'->RelV v u->Q u s'):wpAny (model X.prog X.w) A (getAttr (.ref a) f b) Q E s:=by
 obtain⟨mA,O,r,_,_,_⟩:=iB I.hok e;obtain⟨u,hu,ru⟩:=RelO.some_of (v:=v) (o:=mA f) (by rw[<- l];exact r f);exact uu I.kIn O (c.get f) c.hd n hu (oF ru) (h u _ (I.tok _) ru)
def nr {m:Str}{g:Addr}{pl:Sem Bool}{Q:Value×List Value->Shared->Prop}(I:Inv X w9 σ H s)(e:H a=some (.ins C dx fs))(c:Cls X.K C)(k:Meth X.K C m g)(l:fs.lookup m=none)
  (h:Q (.ref g,[.ref a]) s):wpAny (model X.prog X.w) A (getMethod (.ref a) m pl) Q E s:=by
 obtain⟨mA,O,r,_,_,_⟩:=iB I.hok e;have hn:mA m=none:=RelO.none_of (by rw[<- l];exact r m);exact rm I.kIn O (c.get m) k.at_ k.fn hn h
def nu {y:V}{u:Value}{Q:Unit->Shared->Prop}(I:Inv X w9 σ H s)(e:H a=some (.ins C dx fs))(c:Cls X.K C)(n:NoAttr X.K C f)(hl:fs.length < 1000)(ry:RelV y u)
  (h:∀s',Inv X w9 σ (upd H a (.ins C dx (putF f y fs))) s'->Q () s'):wpAny (model X.prog X.w) A (setAttr (.ref a) f u) Q E s:=by
 obtain⟨mA,O,r,wi,_,ho⟩:=iB I.hok e;have hz:(fs.map (·.1)).length<=sizeLine:=by rw[l0,sizeLine_eq];omega
 refine uv I.kIn O c.sa c.po n.taker c.hd wi hz λh' O' sb=>h _ ?_;have hd:∃o,h'.get? dx=some o:=let ⟨o,_,_,e',_⟩:=O'.ns;⟨o,e'⟩
 refine I.write (x:=a) (e:=dx) (by rw[e];exact True.intro) (.inr ho) (λb q hb z=>(sb.2 b hb).trans z) hd ?_;refine⟨by rw[ag O.ne];exact ho,?_,O.ne,O'.obj,_,O'.ns,λg=>?_,λg hg=>?_⟩
 ·have:=fZ f y fs;omega
 ·show RelO ((putF f y fs).lookup g) (if g=f then some u else mA g);rw[fX];by_cases q:g=f
  ·rw[if_pos q,if_pos q];exact ry
  ·rw[if_neg q,if_neg q];exact r g
 ·by_cases q:g=f
  ·rw[q];exact(fY f y fs).1
  ·refine(fY f y fs).2 g (wi g λz=>hg ?_);show (if g=f then some u else mA g)=none;rw[if_neg q];exact z
def Inv.made (I:Inv X w9 σ H s):Inv X w9 σ (upd (upd H s.heap.objs.size (.own (s.heap.objs.size+1))) (s.heap.objs.size+1) (.ins C s.heap.objs.size []))
  { s with heap:=(s.heap.push emptyDict).push (instObj C s.heap.objs.size) }:=by
 have e1:(s.heap.push emptyDict).get? s.heap.objs.size=some emptyDict:=Heap.get?_push_size s.heap rfl;have e2:((s.heap.push emptyDict).push (instObj C s.heap.objs.size)).get? (s.heap.objs.size+1)=some (instObj C s.heap.objs.size):=by
  have:=Heap.get?_push_size (s.heap.push emptyDict) (o:=instObj C s.heap.objs.size) rfl;rwa [Heap.size_push] at this
 have e3:(s.heap.push emptyDict).Ns s.heap.objs.size (λ_=>none):=⟨emptyDict,#[],_,e1,rfl,(λe he=>absurd he (by simp)),λ_=>rfl⟩;have I1:=I.laid (a:=s.heap.objs.size) (o := .own (s.heap.objs.size+1)) (h':=s.heap.push emptyDict) (t':=s.toks) (λb u q=>Heap.get?_push_of_some _ q) (l5 _) ⟨_,e1⟩;refine I1.laid (a:=s.heap.objs.size+1) (o := .ins C s.heap.objs.size []) (t':=s.toks) (λb u q=>Heap.get?_push_of_some _ q) (Nat.le_of_eq (Heap.size_push _ _)) ?_;have ne:s.heap.objs.size≠s.heap.objs.size+1:=l31 (l66 _);refine⟨by rw[ag ne,aa],l10 _,ne,e2,λ_=>none,(Heap.Ns1.of_empty e3).at λo q=>Heap.get?_push_of_some _ q,λ_=>True.intro,λy hy=>absurd rfl hy⟩
def uw {prog:Program}{w:World}{env:Env}{e:Expr}{f:Str}{pos:Pos}{s:Shared}{Q:Value->Shared->Prop}(hb:attributeBase e f env (eval e env)=eval e env)
  (h:wpAny (model prog w) A (eval e env) (λo s₁=>wpAny (model prog w) A (getAttr o f true) Q E s₁) E s):wpAny (model prog w) A (eval (.Attribute e f pos) env) Q E s:=
 Attribute_any_ h (by rw[arm_eval_Attribute,hb])
end
inductive tFld.I (K:Frag)(f:Str)(Q:VK)(x:V)(H1:Hp):Prop
 |mk (a C dx fs v)(_:x = .ref a)(_:H1 a=some (.ins C dx fs))(_:Cls K C)(_:NoAttr K C f)(_:fs.lookup f=some v)(_:Q v H1)
def tFld (K:Frag)(ta:TE)(f:Str):TE:=λσ H Q=>ta σ H (tFld.I K f Q)
inductive sFld.I (K:Frag)(f:Str)(D:Ends)(σ:St)(y x:V)(H2:Hp):Prop
 |mk (a C dx fs)(_:x = .ref a)(_:H2 a=some (.ins C dx fs))(_:Cls K C)(_:NoAttr K C f)(_:fs.length < 1000)(_:D.nx σ (upd H2 a (.ins C dx (putF f y fs))))
abbrev sFld.K0 (K:Frag) (ta:TE) (f:Str) (D:Ends) (σ:St) (y:V) (H1:Hp):Prop:=ta σ H1 (sFld.I K f D σ y)
def sFld (K:Frag)(ta tv:TE)(f:Str):TS:=λD σ H=>tv σ H (sFld.K0 K ta f D σ)
section
variable {X:Cx}{o e value:Expr}{f:Str}{pos pos' tpos:Pos}{ta tv:TE}
def wo (he:PE X e ta)(hb:attributeBase e f X.env (eval e X.env)=eval e X.env):PE X (.Attribute e f pos) (tFld X.K ta f):=by
 intro w9 s σ H Q I h;refine uw hb (thn (he w9 s σ H _ I h) λu s1 zz=>?_);obtain⟨x,H1,I1,rx,a,C,dx,fs,v,ex,ea,c,n,l,q⟩:=zz;subst ex;obtain rfl:u=Value.ref a:=rx;exact np I1 ea c n l λu' s2 I2 ru=>⟨v,H1,I2,ru,q⟩
def wp (ha:PE X o ta)(hv:PE X value tv)(hs:swapsWith value (some (.Attribute o f pos')) pos.line X.env=pure false):PS X (.Assign [.Attribute o f pos'] value pos) (sFld X.K ta tv f):=by
 intro w9 s σ H D I h;refine plainObj_wpAny_Assign_Attribute (thn (hv w9 s σ H _ I h) λu s1 ⟨y,H1,I1,ry,q⟩=>thn (ha w9 s1 σ H1 _ I1 q) λov s2 zz=>?_) hs;obtain⟨x,H2,I2,rx,a,C,dx,fs,ex,ea,c,n,l,q2⟩:=zz;subst ex;obtain rfl:ov=Value.ref a:=rx;exact nu I2 ea c n l ry λs3 I3=>⟨σ,_,I3,q2⟩
end
section
variable {X:Cx}{w9:List (Addr×Obj)}{σ:St}{H:Hp}{s:Shared}{A:Around}{E:Value->Shared->Prop}{Q:Value->Shared->Prop}{c:Value}{b:Bool}
inductive TyOf (K:Frag)(H:Hp):V->Value->Prop where
 |non:TyOf K H .non (.type "NoneType")
 |bl (x:Bool):TyOf K H (.bl x) (.type "bool")
 |int (i:Int):TyOf K H (.int i) (.type "int")
 |str (x:Str):TyOf K H (.str x) (.type "str")
 |flt (x:UInt64):TyOf K H (.flt x) (.type "float")
 |lst {a:Addr} {xs:List V} (e:H a=some (.lst xs)):TyOf K H (.ref a) (.type "list")
 |frz {a:Addr} {o:Obj} {xs:List V} (e:H a=some (.frz o (.lst xs))):TyOf K H (.ref a) (.type "list")
 |tup {a:Addr} {xs:List V} (e:H a=some (.tup xs)):TyOf K H (.ref a) (.type "tuple")
 |dK {a:Addr} {kvs:List (Key×V)} (e:H a=some (.dK kvs)):TyOf K H (.ref a) (.type "dict")
 |dT {a:Addr} {kvs:List (List Key×V)} (e:H a=some (.dT kvs)):TyOf K H (.ref a) (.type "dict")
 |ins {a C dx:Addr} {fs:List (Str×V)} (e:H a=some (.ins C dx fs)) (cl:Cls K C) (ha:findIn K (.ref C) "__class__"=some (some (.builtin "object.__class__")))
   (hn:specialIn K (.builtin "object.__class__") "__get__"=some (some (.builtin "getset_descriptor.__get__"))) (htk:takesIn K (.builtin "object.__class__")=some true)
   (hm:mroIn K C (.type "object")=some true):TyOf K H (.ref a) (.ref C)
def oG {x:V}{u t:Value}(I:Inv X w9 σ H s)(rx:RelV x u)(ty:TyOf X.K H x t)(e:kitOne X.K t c=some b)(h:∀tk,Q (.bool b) { s with toks:=tk }):
  wpAny (model X.prog X.w) A (call (.builtin "isinstance") [u,c]) Q E s:=by
 cases ty with
 |non=>cases (show u=Value.none from rx);exact kia_one PySem.W.kitx_none I.kIn True.intro e (λz=>nomatch z) h
 |bl y=>cases (show u=Value.bool y from rx);exact kia_one PySem.W.kitx_bool I.kIn True.intro e (λz=>nomatch z) h
 |int i=>obtain⟨t,q⟩:=(show ∃t,u=Value.int i t from rx);cases q;exact kia_one PySem.W.kitx_int I.kIn True.intro e (λz=>nomatch z) h
 |str y=>obtain⟨t,q⟩:=(show ∃t,u=Value.str y t from rx);cases q;exact kia_one PySem.W.kitx_str I.kIn True.intro e (λz=>nomatch z) h
 |flt y=>obtain⟨t,q⟩:=(show ∃t,u=Value.float y t from rx);cases q;exact kia_one PySem.W.kitx_float I.kIn True.intro e (λz=>nomatch z) h
 | @lst a xs ea=>
  cases (show u=Value.ref a from rx);obtain⟨_,_,n,_,h1⟩:=(show ObjOk X.prog X.w H s.heap a (.lst xs) from I.hok a _ ea);exact kia_one kitx_list I.kIn ⟨_,h1,rfl⟩ e (λz=>nomatch z) h
 | @frz a ob xs ea=>
  cases (show u=Value.ref a from rx);obtain⟨_,_,_,n,_,h1⟩:=(show ObjOk X.prog X.w H s.heap a (.frz ob (.lst xs)) from I.hok a _ ea);exact kia_one kitx_list I.kIn ⟨_,h1,rfl⟩ e (λz=>nomatch z) h
 | @tup a xs ea=>
  cases (show u=Value.ref a from rx);obtain⟨_,_,_,p⟩:=(show ObjOk X.prog X.w H s.heap a (.tup xs) from I.hok a _ ea);obtain⟨o,h1,h2,_⟩:=p;exact kia_one PySem.W.kitx_tuple I.kIn ⟨o,h1,h2⟩ e (λz=>nomatch z) h
 | @dK a kvs ea=>
  cases (show u=Value.ref a from rx);obtain⟨_,_,vs,_,p⟩:=(show ObjOk X.prog X.w H s.heap a (.dK kvs) from I.hok a _ ea);obtain⟨o,es,ep,h1,h2,_⟩:=p;exact kia_one kitx_dict I.kIn ⟨o,h1,h2.1⟩ e (λz=>nomatch z) h
 | @dT a kvs ea=>
  cases (show u=Value.ref a from rx);obtain⟨_,_,xs,_,o,es,ep,h1,h2,_⟩:=(show ObjOk X.prog X.w H s.heap a (.dT kvs) from I.hok a _ ea);exact kia_one kitx_dict I.kIn ⟨o,h1,h2.1⟩ e (λz=>nomatch z) h
 | @ins a C dx fs ea cl ha hn htk hm=>
  cases (show u=Value.ref a from rx);obtain⟨mA,O,_⟩:=iB I.hok ea;obtain⟨od,J,_⟩:=O.look;exact kia_one (PySem.W.kitx_own (cl.get _) cl.hd ha hn htk hm) I.kIn J e (λz=>nomatch z) h
end
structure Room (k:Nat)(A:Around):Prop where
 hd:A.handled=none
 dp:A.depth+3 * k+5 < recursionLimit
 un:A.units+16 * k+200 < cLine
def Room.mono {j k:Nat}{A:Around}(r:Room k A)(h:j<=k:=by omega):Room j A:=⟨r.hd,by have:=r.dp;omega,by have:=r.un;omega⟩
def Room.deeper {k:Nat}{A:Around}(r:Room (k+1) A)(env:Env):Room k (A.deeper env):=
 ⟨r.hd,by have:=r.dp;show A.depth+1+3 * k+5 < _;omega,by have:=r.un;show A.units+3+16 * k+200 < _;omega⟩
def nv {A:Around}{C:Addr}{us:List Value}{kw:List (Str×Value)}:(A.under (.builtin "type.__call__" ⟨.ref C::us,kw⟩)).depth=A.depth+1:=by
 first |rfl |simp[Around.under,Code.weight,Code.isCreation,Code.isGuard,Code.isCaller,Code.frames,Code.isFrame,guardIds]
def nw {A:Around}{C:Addr}{us:List Value}{kw:List (Str×Value)}:(A.under (.builtin "type.__call__" ⟨.ref C::us,kw⟩)).units=A.units+1:=by
 first |rfl |simp[Around.under,Code.cUnits,Code.frames,Code.isFrame]
def Room.make {k:Nat}{A:Around}(r:Room (k+1) A)(C:Addr)(us:List Value)(kw:List (Str×Value)):Room k (A.under (.builtin "type.__call__" ⟨.ref C::us,kw⟩)):=
 ⟨r.hd,by have:=r.dp;rw[nv];omega,by have:=r.un;rw[nw];omega⟩
def Room.depth {k:Nat}{A:Around}(r:Room k A):A.depth < recursionLimit:=by have:=r.dp;omega
def tNil:TA:=λ_ H Q=>Q [] H
abbrev tCons.K1 (Q:(List V->Hp->Prop)) (x:V) (xs:List V) (H2:Hp):Prop:=Q (x::xs) H2
abbrev tCons.K0 (tr:TA) (σ:St) (Q:(List V->Hp->Prop)) (x:V) (H1:Hp):Prop:=tr σ H1 (tCons.K1 Q x)
def tCons (ta:TE)(tr:TA):TA:=λσ H Q=>ta σ H (tCons.K0 tr σ Q)
section
variable {X:Cx}{e:Expr}{es:List Expr}{te:TE}{t:TA}{pos:Pos}
def wq:PA X [] tNil:=λ_ _ _ _ H Q I h=>Calls.spliced_nil ⟨[],H,I, .nil,h⟩
def ux (ha:PE X e te)(hr:PA X es t)(hs:starEach (e::es) X.env=(false,eval e X.env)::starEach es X.env:=by rfl):PA X (e::es) (tCons te t):=by
 intro pos w9 s σ H Q I h;rw[hs];show wpAny _ _ (spliced ((false,eval e X.env)::backTo pos (starEach es X.env))) _ _ s;refine Calls.spliced_cons (thn (ha w9 s σ H _ I h) λu s1 ⟨x,H1,I1,r1,q1⟩=>?_);exact thn (hr pos w9 s1 σ H1 _ I1 q1) λus s2 ⟨xs,H2,I2,r2,q2⟩=>⟨x::xs,H2,I2, .cons r1 r2,q2⟩
inductive tTup.I (Q:VK)(xs:List V)(H1:Hp):Prop
 |mk (_:xs.length<=sizeLine)(_:∀p,H1 p=none->Q (.ref p) (upd H1 p (.tup xs)))
def tTup (t:TA):TE:=λσ H Q=>t σ H (tTup.I Q)
inductive tLst.I (Q:VK)(xs:List V)(H1:Hp):Prop
 |mk (_:xs.length<=sizeLine)(_:∀p,H1 p=none->Q (.ref p) (upd H1 p (.lst xs)))
def tLst (t:TA):TE:=λσ H Q=>t σ H (tLst.I Q)
def wr {x1}(h:PA X es t):PE X (.Tuple es x1 pos) (tTup t):=by
 intro w9 s σ H Q I hq;refine wpAny_Tuple_spliced (thn (h pos w9 s σ H _ I hq) λus s1 ⟨xs,H1,I1,r,z,q⟩=>⟨by rw[<- r.length];exact z,?_⟩);have hf:H1 s1.heap.objs.size=none:=I1.hok.fresh (l5 _);refine⟨.ref s1.heap.objs.size,upd H1 s1.heap.objs.size (.tup xs),I1.laid (t':=s1.toks) (λb u e=>Heap.get?_push_of_some _ e) (l5 _) ?_,rfl,q _ hf⟩;exact⟨z,us,r,⟨_,Heap.get?_push_size _ rfl,rfl,_,rfl⟩⟩
def wt (h:PA X es t):PE X (.List es pos) (tLst t):=by
 intro w9 s σ H Q I hq;refine wpAny_List_spliced (thn (h pos w9 s σ H _ I hq) λus s1 ⟨xs,H1,I1,r,z,q⟩=>⟨by rw[<- r.length];exact z,?_⟩);have hf:H1 s1.heap.objs.size=none:=I1.hok.fresh (l5 _);refine⟨.ref s1.heap.objs.size,upd H1 s1.heap.objs.size (.lst xs),I1.laid (t':=s1.toks) (λb u e=>Heap.get?_push_of_some _ e) (l5 _) ?_,rfl,q _ hf⟩;exact⟨z,us,0,r,Heap.get?_push_size _ rfl⟩
end
abbrev Sp:=List V->Hp->VK->XK->Prop
abbrev CXT:=List Env->Hp->Shared->XK->Value->Shared->Prop
structure Env0 (P:Program)(w:World)(K:Frag)(mg:Str->Option Value)(base:Heap)(A:Around)(outer:List Env)(s:Shared)(H:Hp):Prop where
 frames:A.frames=some outer
 mod:Mod K mg base
 bs:∀b o,base.get? b=some o->s.heap.get? b=some o/\H b=none
 bsz:base.objs.size<=s.heap.objs.size
 funs:s.heap.FunFrames base outer
 frf:∀b∈frs outer,H b=none
 hok:HOk P w H s.heap
 bare:AllBare s.gens
 tk:0 < s.toks
inductive CE (outer:List Env)(P:Program)(w:World)(H:Hp)(s:Shared)(Q:VK)(u:Value)(s':Shared):Prop
 |mk (v H')(_:s'.os=s.os)(_:AllBare s'.gens)(_:Un (frs outer) [] H H' s.heap s'.heap)(_:HOk P w H' s'.heap)(_:0 < s'.toks)(_:RelV v u)(_:Q v H')
def CR (CX:CXT)(outer:List Env)(P:Program)(w:World)(H:Hp)(s:Shared)(Q:VK)(E:XK)(r:Result)(s':Shared):Prop:=
 match r with
 | .ok (.ret u)=>CE outer P w H s Q u s'
 | .ok _=>False
 | .error e=>CX outer H s E e s'
structure FnOk (P:Program)(w:World)(K:Frag)(mg:Str->Option Value)(base:Heap)(CX:CXT)(k:Nat)(f:Addr)(fd:FuncData)(ps:List Str)(sp:Sp):Prop where
 len:∀vs H Q E,sp vs H Q E->vs.length=ps.length
 run:∀(A:Around) (outer:List Env) (s:Shared) (H:Hp) (args:Args) (us:List Value) (vs:List V) (Q:VK) (E:XK),Room k A->Env0 P w K mg base A outer s H->BindsTo s fd args (ps.zip us)->Vals vs us->sp vs H Q E →
  codeAny (model P w) A (.call (.ref f) args) (CR CX outer P w H s Q E) s
def FnOk.mono {P:Program}{w:World}{K:Frag}{mg:Str->Option Value}{base:Heap}{CX:CXT}{j k:Nat}{f:Addr}{fd:FuncData}{ps:List Str}{sp:Sp}(F:FnOk P w K mg base CX j f fd ps sp)(h:j<=k):
  FnOk P w K mg base CX k f fd ps sp:=⟨F.len,λA outer s H args us vs Q E hr=>F.run A outer s H args us vs Q E (hr.mono h)⟩
def Env0.make {P:Program}{w:World}{K:Frag}{mg:Str->Option Value}{base:Heap}{A:Around}{outer:List Env}{s:Shared}{H:Hp}(e:Env0 P w K mg base A outer s H)(C:Addr)(us:List Value)(kw:List (Str×Value)):
  Env0 P w K mg base (A.under (.builtin "type.__call__" ⟨.ref C::us,kw⟩)) outer s H:=⟨by first |exact e.frames |(simpa[Around.under,Code.envs,Code.isFrame,pushEnvs] using e.frames),e.mod,e.bs,e.bsz,e.funs,e.frf,e.hok,e.bare,e.tk⟩
section
variable {X:Cx}{w9:List (Addr×Obj)}{σ:St}{H:Hp}{s s':Shared}
def Inv.env0 (I:Inv X w9 σ H s):Env0 X.prog X.w X.K X.mg X.base X.A X.stack s H:=
 ⟨I.ok.frames,I.ok.mod,I.bs,l11 I.ok.bsz I.sz,I.stack,I.stkFree,I.hok,I.bare,I.tk⟩
def Inv.after {Q:VK}{u:Value}(I:Inv X w9 σ H s)(h:CE X.stack X.prog X.w H s Q u s'):EP X w9 σ Q u s':=by
 obtain⟨v,H',os,bare,un,hok,tk',r,q⟩:=h;obtain⟨hh,g,d,t,os'⟩:=s';obtain rfl:os'=s.os:=os;exact⟨v,H',I.call (h':=hh) (g':=g) (d':=d) (t':=t) (ch:=[]) un hok bare (λb z=>absurd z (by simp)) tk',r,q⟩
end
abbrev tCall.K0 (sp:Sp) (dvs:List V) (E:XK) (Q:VK) (vs:List V) (H1:Hp):Prop:=sp (vs++dvs) H1 Q E
def tCall (sp:Sp)(dvs:List V)(E:XK)(t:TA):TE:=λσ H Q=>t σ H (tCall.K0 sp dvs E Q)
abbrev tMake.K0 (C:Addr) (sp:Sp) (dvs:List V) (E:XK) (Q:VK) (vs:List V) (H1:Hp):Prop:=∀x dx,H1 x=none->H1 dx=none->dx≠x->sp (.ref x::(vs++dvs)) (upd (upd H1 dx (.own x)) x (.ins C dx [])) (λv H2=>v = .non/\Q (.ref x) H2) E
def tMake (C:Addr)(sp:Sp)(dvs:List V)(E:XK)(t:TA):TE:=λσ H Q=>t σ H (tMake.K0 C sp dvs E Q)
def Binds (K:Frag)(fd:FuncData)(ps:List Str)(ds:List Value):Prop:=
 ∀(s:Shared) (us:List Value),K.In s.heap->(us++ds).length=ps.length->BindsTo s fd ⟨us,[]⟩ (ps.zip (us++ds))
def Binds.all {K:Frag}{fd:FuncData}{ps:List Str}(h:∀us:List Value,us.length=ps.length->bindArgs fd ⟨us,[]⟩=pure (ps.zip us)):Binds K fd ps []:=λs us _ hl=>by
 rw[l17] at hl ⊢;exact .of_eq (h us hl)
def jB (CX:CXT)(X:Cx)(E:XK):Prop:=∀(w9:List (Addr×Obj)) (σ:St) (H:Hp) (s:Shared) (e:Value) (s':Shared),Inv X w9 σ H s->CX X.stack H s E e s'->X.xe e s'
section
variable {X:Cx}{CX:CXT}{k:Nat}{f C:Addr}{fd:FuncData}{ps:List Str}{sp:Sp}{dvs:List V}{ds:List Value}{E:XK}{x m:Str}{p pos y9:Pos}{e o:Expr}{es:List Expr}{ta:TE}{t:TA}
def tx {w9:List (Addr×Obj)}{σ:St}{H:Hp}{s:Shared}{Q:VK}{us:List Value}{vs:List V}(F:FnOk X.prog X.w X.K X.mg X.base CX k f fd ps sp)(hr:Room k X.A)(hb:Binds X.K fd ps ds)(hd:Vals dvs ds)(hx:jB CX X E)
  (I:Inv X w9 σ H s)(r:Vals vs us)(h:sp (vs++dvs) H Q E):wpAny (model X.prog X.w) X.A (call (.ref f) us) (EP X w9 σ Q) X.xe s:=by
 have r2:Vals (vs++dvs) (us++ds):=r.append hd;have hl:(us++ds).length=ps.length:=by rw[<- r2.length];exact F.len _ _ _ _ h
 refine wpAny_call (codeAny_mono (F.run X.A X.stack s H ⟨us,[]⟩ (us++ds) (vs++dvs) Q E hr I.env0 (hb s us I.kIn hl) r2 h) λr s' hq=>?_);cases r with
 |error e=>exact hx w9 σ H s e s' I hq
 |ok fl=>
  cases fl with
  |ret u=>exact I.after hq
  |next=>exact False.elim hq
  |brk=>exact False.elim hq
  |cont=>exact False.elim hq
def uy (F:FnOk X.prog X.w X.K X.mg X.base CX k f fd ps sp)(hr:Room k X.A)(hg:Gl X x)(hm:X.mg x=some (.ref f))(hk:keepIn X.K (.ref f)=true)(hb:Binds X.K fd ps ds)(hd:Vals dvs ds)(hx:jB CX X E)
  (ha:PA X (e::es) t)(hdb:(x==("__debug__":Str))=false:=by decide) (he:starEach (e::es) X.env=(false,eval e X.env)::starEach es X.env:=by rfl) (hpl:(backTo pos (starEach es X.env)).any (·.1)=false:=by rfl):
  PE X (.Call (.Name x p) (e::es) [] pos) (tCall sp dvs E t):=by
 intro w9 s σ H Q I h;refine wpAny_Call_Name_kw (kK I hg hm ?_ hdb);refine callWith_K (h₀:=X.base) I.ok.mod.kin hk (thn (ha pos w9 s σ H _ I h) λus s1 ⟨vs,H1,I1,r,q⟩=>⟨I1.kIn,?_⟩) he hpl;exact tx F hr hb hd hx I1 r q
structure Mk (K:Frag)(C f:Addr):Prop where
 makes:makesIn K C=true
 init:findIn K (.ref C) "__init__"=some (some (.ref f))
 fn:isFn K (.ref f)=true
 kp:keepIn K (.ref C)=true
def rp {w9:List (Addr×Obj)}{σ:St}{H:Hp}{s:Shared}{Q:VK}{us:List Value}{vs:List V}(M:Mk X.K C f)(F:FnOk X.prog X.w X.K X.mg X.base CX k f fd ps sp)(hr:Room (k+1) X.A)(hb:Binds X.K fd ps ds)(hd:Vals dvs ds)
  (hx:jB CX X E)(I:Inv X w9 σ H s)(r:Vals vs us)
  (h:∀x dx,H x=none->H dx=none->dx≠x->sp (.ref x::(vs++dvs)) (upd (upd H dx (.own x)) x (.ins C dx [])) (λv H2=>v = .non/\Q (.ref x) H2) E):
  wpAny (model X.prog X.w) X.A (call (.ref C) us) (EP X w9 σ Q) X.xe s:=by
 have hq:=h (s.heap.objs.size+1) s.heap.objs.size (I.hok.fresh (Nat.le_succ _)) (I.hok.fresh (l5 _)) (l31 (l66 _));have I2:=Inv.made (C:=C) I;have r2:Vals (V.ref (s.heap.objs.size+1)::(vs++dvs)) (Value.ref (s.heap.objs.size+1)::(us++ds)) := .cons rfl (r.append hd);have hl:(Value.ref (s.heap.objs.size+1)::us++ds).length=ps.length:=by
  have e:=r2.length;rw[F.len _ _ _ _ hq] at e;exact e.symm
 refine wpAny_call (rn (f := f) I.kIn M.makes M.init (beq_iff_eq.mp M.fn) (codeAny_mono (F.run _ X.stack _ _ ⟨Value.ref (s.heap.objs.size+1)::us,[]⟩ (Value.ref (s.heap.objs.size+1)::(us++ds)) _ _ E (hr.make C us [])
  (I2.env0.make C us []) (hb _ (Value.ref (s.heap.objs.size+1)::us) I2.kIn hl) r2 hq) λr s' hq'=>?_))
 cases r with
 |error e=>exact hx w9 σ _ _ e s' I2 hq'
 |ok fl=>
  cases fl with
  |ret u=>
   obtain⟨v,H',I3,rv,ev,q3⟩:=I2.after hq';subst ev;exact⟨rv,⟨V.ref (s.heap.objs.size+1),H',I3,rfl,q3⟩⟩
  |next=>exact False.elim hq'
  |brk=>exact False.elim hq'
  |cont=>exact False.elim hq'
def uz (M:Mk X.K C f)(F:FnOk X.prog X.w X.K X.mg X.base CX k f fd ps sp)(hr:Room (k+1) X.A)(hg:Gl X x)(hm:X.mg x=some (.ref C))(hb:Binds X.K fd ps ds)(hd:Vals dvs ds)(hx:jB CX X E)
  (ha:PA X (e::es) t)(hdb:(x==("__debug__":Str))=false:=by decide) (he:starEach (e::es) X.env=(false,eval e X.env)::starEach es X.env:=by rfl) (hpl:(backTo pos (starEach es X.env)).any (·.1)=false:=by rfl):
  PE X (.Call (.Name x p) (e::es) [] pos) (tMake C sp dvs E t):=by
 intro w9 s σ H Q I h;refine wpAny_Call_Name_kw (kK I hg hm ?_ hdb);refine callWith_K (h₀:=X.base) I.ok.mod.kin M.kp (thn (ha pos w9 s σ H _ I h) λus s1 ⟨vs,H1,I1,r,q⟩=>⟨I1.kIn,?_⟩) he hpl;exact rp M F hr hb hd hx I1 r q
end
structure FnScope (N P:List Str)(sc:Scope):Prop where
 kind:sc.kind = .function
 co:sc.isCoroutine=false
 gen:sc.isGenerator=false
 nd:N.Nodup
 pre:N.take P.length=P
 par:∀x∈P,sc.names.lookup x=some .local ∨ sc.names.lookup x=some .cell
 nofree:∀y∈sc.names,y.2 ≠ .free
def mkS {N P:List Str}{sc:Scope}(a:sc.kind = .function:=by rfl) (b:sc.isCoroutine=false:=by rfl) (c:sc.isGenerator=false:=by rfl) (d:N.Nodup:=by decide) (e:N.take P.length=P:=by rfl) (f:∀x∈P,sc.names.lookup x=some .local ∨ sc.names.lookup x=some .cell:=by decide) (g:∀y∈sc.names,y.2 ≠ .free:=by decide):FnScope N P sc:=⟨a,b,c,d,e,f,g⟩
theorem jC {kindOf:Str->Option NameKind}{x:Str}:∀{binds:List (Str×Value)} {m:Str->Option Value},(∀v,(x,v)∉binds)->bindL kindOf binds m x=m x
 | [],_,_=>rfl
 |(n,v)::r,m,h=>by
  unfold bindL;rw[jC λw hw=>h w (l7 _ hw)];split
  ·have:x≠n:=by rintro rfl;exact h v l8
   simp[this]
  ·rfl
theorem jD {kindOf:Str->Option NameKind}{x:Str}:∀{binds:List (Str×Value)} {m:Str->Option Value},(∀v,(x,v)∉binds)->bindC kindOf binds m x=m x
 | [],_,_=>rfl
 |(n,v)::r,m,h=>by
  unfold bindC;rw[jD λw hw=>h w (l7 _ hw)];split
  ·rfl
  ·have:x≠n:=by rintro rfl;exact h v l8
   simp[this]
theorem jE {kindOf:Str->Option NameKind}{x:Str}{v:Value}:∀{P:List Str} {vs:List Value} {i:Nat} {m:Str->Option Value},P.Nodup->P[i]? = some x->vs[i]? = some v->kindOf x=some .local →
  bindL kindOf (P.zip vs) m x=some v
 | [],_,_,_,_,h,_,_=>by simp at h
 |_::_,[],_,_,_,_,h,_=>by simp at h
 |p::P,w::vs,0,m,nd,h1,h2,hk=>by
  simp at h1 h2;subst h1;subst h2;show bindL kindOf ((p,w)::P.zip vs) m p=_;unfold bindL;rw[jC λv hv=>(l76.mp nd).1 (List.of_mem_zip hv).1,if_pos hk];simp
 |p::P,w::vs,i+1,m,nd,h1,h2,hk=>by
  show bindL kindOf ((p,w)::P.zip vs) m x=_;unfold bindL;exact jE (i:=i) (l76.mp nd).2 (by simpa using h1) (by simpa using h2) hk
theorem jF {kindOf:Str->Option NameKind}{x:Str}{v:Value}:∀{P:List Str} {vs:List Value} {i:Nat} {m:Str->Option Value},P.Nodup->P[i]? = some x->vs[i]? = some v->kindOf x≠some .local →
  bindC kindOf (P.zip vs) m x=some v
 | [],_,_,_,_,h,_,_=>by simp at h
 |_::_,[],_,_,_,_,h,_=>by simp at h
 |p::P,w::vs,0,m,nd,h1,h2,hk=>by
  simp at h1 h2;subst h1;subst h2;show bindC kindOf ((p,w)::P.zip vs) m p=_;unfold bindC;rw[jD λv hv=>(l76.mp nd).1 (List.of_mem_zip hv).1,if_neg hk];simp
 |p::P,w::vs,i+1,m,nd,h1,h2,hk=>by
  show bindC kindOf ((p,w)::P.zip vs) m x=_;unfold bindC;exact jF (i:=i) (l76.mp nd).2 (by simpa using h1) (by simpa using h2) hk
def start (N:List Str)(vs:List V):St:=vs.map some++List.replicate (N.length - vs.length) none
def xO {a0 a1:Str}{v0:V}:start [a0,a1] [v0]=[some v0,none]:=rfl
def xP {a0 a1:Str}{v0 v1:V}:start [a0,a1] [v0,v1]=[some v0,some v1]:=rfl
def uA {a0 a1 a2:Str}{v0:V}:start [a0,a1,a2] [v0]=[some v0,none,none]:=rfl
def xQ {a0 a1 a2:Str}{v0 v1:V}:start [a0,a1,a2] [v0,v1]=[some v0,some v1,none]:=rfl
def xR {a0 a1 a2 a3:Str}{v0:V}:start [a0,a1,a2,a3] [v0]=[some v0,none,none,none]:=rfl
def xS {a0 a1 a2 a3:Str}{v0 v1:V}:start [a0,a1,a2,a3] [v0,v1]=[some v0,some v1,none,none]:=rfl
def wu {a0 a1 a2 a3:Str}{v0 v1 v2:V}:start [a0,a1,a2,a3] [v0,v1,v2]=[some v0,some v1,some v2,none]:=rfl
def wv {a0 a1 a2 a3 a4:Str}{v0:V}:start [a0,a1,a2,a3,a4] [v0]=[some v0,none,none,none,none]:=rfl
def ww {a0 a1 a2 a3 a4:Str}{v0 v1:V}:start [a0,a1,a2,a3,a4] [v0,v1]=[some v0,some v1,none,none,none]:=rfl
def uB {a0 a1 a2 a3 a4:Str}{v0 v1 v2:V}:start [a0,a1,a2,a3,a4] [v0,v1,v2]=[some v0,some v1,some v2,none,none]:=rfl
def wx {a0 a1 a2 a3 a4 a5:Str}{v0 v1 v2:V}:start [a0,a1,a2,a3,a4,a5] [v0,v1,v2]=[some v0,some v1,some v2,none,none,none]:=rfl
def xT {a0 a1 a2 a3 a4 a5 a6:Str}{v0:V}:start [a0,a1,a2,a3,a4,a5,a6] [v0]=[some v0,none,none,none,none,none,none]:=rfl
def wy {a0 a1 a2 a3 a4 a5 a6 a7 a8 a9 a10 a11 a12 a13 a14 a15 a16:Str}{v0:V}:start [a0,a1,a2,a3,a4,a5,a6,a7,a8,a9,a10,a11,a12,a13,a14,a15,a16] [v0]=[some v0,none,none,none,none,none,none,none,none,none,none,none,none,none,none,none,none]:=rfl
def cxOf (CX:CXT)(P:Program)(w:World)(K:Frag)(mg:Str->Option Value)(base:Heap)(N:List Str)(qual:Str)(scope:Scope)(f:Addr)(cd:Value)(A:Around)(outer:List Env)(s:Shared)(H:Hp)(E:XK):Cx where
 prog:=P
 w:=w
 K:=K
 mg:=mg
 base:=base
 A:=A.deeper (envOfC qual scope s.heap.objs.size f cd)
 N:=N
 s₀:=s
 H₀:=H
 env:=envOfC qual scope s.heap.objs.size f cd
 outer:=outer
 stack:=envOfC qual scope s.heap.objs.size f cd::outer
 ex:=[]
 calm:=true
 fn:=λ_=>true
 pn:=[]
 xe:=λe s'=>wpAny (model P w) (A.deeper (envOfC qual scope s.heap.objs.size f cd)) (leaving (envOfC qual scope s.heap.objs.size f cd) e) (λ_ s''=>CX outer H s E e s'') (λe' s''=>CX outer H s E e' s'') s'
def mh {sc:Scope}{n:Nat}{x:Str}(h:sc.names.lookup x=some .cell):∃c,(cellsFrom n sc.names []).lookup x=some c:=by
 have q:=PySem.W.cellsFrom_some sc.names n [] (.inl h);exact l77.mp q
def oH {CX:CXT}{P:Program}{w:World}{K:Frag}{mg:Str->Option Value}{base:Heap}{N ps:List Str}{qual:Str}{scope:Scope}{f:Addr}{cd:Value}{A:Around}{outer:List Env}{s s1:Shared}{H:Hp}{E:XK}{us:List Value}{vs:List V}
  (S:FnScope N ps scope)(hd:A.handled=none)(e0:Env0 P w K mg base A outer s H)(hl:vs.length=ps.length)(r:Vals vs us)(htk:0 < s1.toks)
  (x:InCallC s s.heap.objs.size (bindL (envOfC qual scope s.heap.objs.size f cd).kindOf (ps.zip us) λ_=>none) (cellsFrom (s.heap.objs.size+1) scope.names []) (bindC (envOfC qual scope s.heap.objs.size f cd).kindOf (ps.zip us) λ_=>none) s1):
  Inv (cxOf CX P w K mg base N qual scope f cd A outer s H E) [] (start N vs) H s1:=by
 have hpl:ps.length<=N.length:=by have:=congrArg List.length S.pre;rw[l30] at this;omega
 obtain⟨h1,tk,rfl,hk⟩:=x.done;have noA:∀b:Addr,b∉(cxOf CX P w K mg base N qual scope f cd A outer s H E).ex:=λb z=>absurd (show b∈([]:List Addr) from z) (by simp);refine ⟨⟨e0.mod,S.kind,rfl,rfl,l5 _,λy z c h1 h2=>?_,λy hy=>?_,λy c _ h=>?_,λ_=>hd,Around.frames_deeper e0.frames, .inr ⟨rfl,rfl⟩,λb z=>absurd z (noA b),e0.bs,e0.bsz,λb _ _=>noA b,λb z=>absurd z (noA b),e0.funs,e0.frf⟩,
  rfl,e0.bare,Un.kept hk,⟨_,x.toInCall.ns,λi y v h1 h2 h3=>?_⟩,λy c h=>⟨_,x.cell y c h⟩,e0.hok.fresh (l5 _),λy c h=>?_,λp hp=>absurd (show p∈([]:List (Addr×Obj)) from hp) (by simp),e0.hok.kept hk,?_,htk⟩
 ·exact name_of_addr x.apart (PySem.mem_of_lookup h1) (PySem.mem_of_lookup h2)
 ·have hy:scope.names.lookup y=some .cell ∨ scope.names.lookup y=some .free:=hy;rcases hy with hy |hy
  ·exact mh hy
  ·exact absurd rfl (S.nofree _ (PySem.mem_of_lookup hy))
 ·exact Nat.le_of_lt (x.above y c (PySem.mem_of_lookup h))
 ·have hi:i < vs.length:=by
   unfold start at h2;by_cases hi:i < vs.length
   ·exact hi
   ·rw[List.getElem?_append_right (by simpa using hi)] at h2;rw[List.getElem?_replicate] at h2;split at h2 <;> cases h2
  have ha:vs[i]? = some v:=by
   unfold start at h2;rw[List.getElem?_append_left (by simpa using hi),List.getElem?_map] at h2;cases e:vs[i]? with
   |none=>rw[e] at h2;cases h2
   |some a=>rw[e] at h2;cases h2;rfl
  obtain⟨u,hu,rv⟩:=r.get ha;have hp:ps[i]? = some y:=by
   rw[<- S.pre,List.getElem?_take_of_lt nofun];exact h1
  have ndP:ps.Nodup:=by rw[<- S.pre];exact S.nd.sublist (List.take_sublist _ _)
  refine⟨u,rv,?_⟩;rcases S.par y (l16 hp) with k |k
  ·exact .inl ⟨k,jE ndP hp hu k⟩
  ·obtain⟨c,e⟩:=mh (n:=s.heap.objs.size+1) k;refine .inr ⟨.inl k,c,e,?_⟩;have q:=x.cell y c e;rw[jF ndP hp hu (by show scope.names.lookup y≠_;rw[k];decide)] at q;exact q
 ·exact e0.hok.fresh (Nat.le_of_lt (x.above y c (PySem.mem_of_lookup h)))
 ·unfold start;show _=N.length;rw[l6,l0,l32];omega
def xU {CX:CXT}{P:Program}{w:World}{K:Frag}{mg:Str->Option Value}{base:Heap}{k:Nat}{f:Addr}{name qual:Str}{params:Arguments}{body:List Stmt}{scope:Scope}{dV kV doc pm cdv ct oc:Value}{an od:Option Addr}
  {osl:Array (Option Value)}{N ps:List Str}{sp:Sp}(lk:K.lookup f=some ⟨oc,od, .func (fnOf name qual params body scope dV kV doc pm an cdv ct),osl⟩)(hcd:codeIn K cdv qual=true)(S:FnScope N ps scope)
  (len:∀vs H Q E,sp vs H Q E->vs.length=ps.length)
  (y0:∀(A:Around)(outer:List Env)(s:Shared)(H:Hp)(vs:List V)(Q:VK)(E:XK),Room k (A.deeper (envOfC qual scope s.heap.objs.size f cdv))->sp vs H Q E →
   ∃t,PSs (cxOf CX P w K mg base N qual scope f cdv A outer s H E) body t/\t { nx:=λ_ H'=>Q .non H',rt:=Q } (start N vs) H):
  FnOk P w K mg base CX (k+1) f (fnOf name qual params body scope dV kV doc pm an cdv ct) ps sp:=by
 refine⟨len,λA outer s H args us vs Q E hr e0 hb r hsp=>?_⟩;have hl:=len _ _ _ _ hsp;have KX:K.In s.heap:=e0.mod.kin.keeps λb o e=>(e0.bs b o e).1;have lim:s.heap.NoLimit:=e0.mod.nolimit.keeps λb o e=>(e0.bs b o e).1;have hkind:∀y∈ps.zip us,scope.names.lookup y.1=some .local ∨ (scope.names.lookup y.1=some .cell/\((cellsFrom (s.heap.objs.size+1) scope.names []).lookup y.1).isSome=true):=λ⟨n,v⟩ hy=>by
  rcases S.par n (List.of_mem_zip hy).1 with q |q
  ·exact .inl q
  ·exact .inr ⟨q,PySem.W.cellsFrom_some _ _ _ (.inl q)⟩
 refine codeAny_call_function hr.depth (KX _ _ lk) rfl S.co S.gen rfl (PySem.W.codeRec_of KX hcd) (hb _ _ _ _ ?_);refine wpAny_with_toks (n:=1) e0.tk (wpAny_newFunctionEnv_cells S.kind hkind λenv he s1 x htk=>?_);subst he;refine⟨lim.keeps x.toInCall.keep,codeAny_func ?_⟩;obtain⟨t,ht,hq⟩:=y0 A outer s H vs Q E (hr.deeper _) hsp;have I:Inv (cxOf CX P w K mg base N qual scope f cdv A outer s H E) [] (start N vs) H s1:=oH S hr.hd e0 hl r htk x;refine wpAny_mono (ht [] s1 (start N vs) H _ I hq) (λfl s' hs=>?_) λe s' hs=>hs;have fin:∀{σ':St} {H':Hp} {v:V} {u:Value},Inv (cxOf CX P w K mg base N qual scope f cdv A outer s H E) [] σ' H' s'->RelV v u->Q v H'->CE outer P w H s Q u s':=
  λ{σ' H' v u} J rv q=>⟨v,H',J.os,J.bare,J.base,J.hok,J.tk,rv,q⟩
 cases fl with
 |ret u=>
  obtain⟨v,σ',H',J,rv,q⟩:=hs;exact fin J rv q
 |next=>
  obtain⟨σ',H',J,q⟩:=hs;exact fin (v:=V.non) (u:=Value.none) J rfl q
 |brk=>
  obtain⟨_,_,_,q⟩:=hs;exact False.elim q
 |cont=>
  obtain⟨_,_,_,q⟩:=hs;exact False.elim q
section
variable {X:Cx}{x:Str}{p pos:Pos}{e:Expr}{es:List Expr}{t:TA}{id T:String}{r:List V->Hp->VK->Prop}
abbrev tCB.K0 (r:List V->Hp->VK->Prop)(Q:VK)(vs:List V)(H1:Hp):Prop:=r vs H1 Q
def tCB (r:List V->Hp->VK->Prop)(t:TA):TE:=λσ H Q=>t σ H (tCB.K0 r Q)
def rq (hc:cQ X (.builtin id) r)(hg:Gl X x)(hm:X.mg x=none)(hv:bootBuiltins x=some (.builtin id))(ha:PA X (e::es) t)(hn:x≠"__name__":=by decide) (hdb:(x==("__debug__":Str))=false:=by decide)
  (he:starEach (e::es) X.env=(false,eval e X.env)::starEach es X.env:=by rfl) (hpl:(backTo pos (starEach es X.env)).any (·.1)=false:=by rfl):PE X (.Call (.Name x p) (e::es) [] pos) (tCB r t):=by
 intro w9 s σ H Q I h;refine wpAny_Call_Name_kw (mf I hg hm hv ?_ hn hdb);exact PyProof.Rows.callWith_builtin1 (thn (ha pos w9 s σ H _ I h) λus s1 ⟨vs,H1,I1,r1,q1⟩=>hc w9 s1 σ H1 vs us Q I1 r1 q1) he hpl
def oI (hc:cQ X (.type T) r)(hg:Gl X x)(hm:X.mg x=none)(hv:bootBuiltins x=some (.type T))(ha:PA X (e::es) t)(hn:x≠"__name__":=by decide) (hdb:(x==("__debug__":Str))=false:=by decide)
  (he:starEach (e::es) X.env=(false,eval e X.env)::starEach es X.env:=by rfl) (hpl:(backTo pos (starEach es X.env)).any (·.1)=false:=by rfl):PE X (.Call (.Name x p) (e::es) [] pos) (tCB r t):=by
 intro w9 s σ H Q I h;refine wpAny_Call_Name_kw (mf I hg hm hv ?_ hn hdb);exact callWith_type1 (thn (ha pos w9 s σ H _ I h) λus s1 ⟨vs,H1,I1,r1,q1⟩=>hc w9 s1 σ H1 vs us Q I1 r1 q1) he hpl
end
end L2
local macro_rules
 |`(tactic|left)=>`(tactic|try dsimp only[L2.tAsg.K0,L2.tDrop.K0,L2.Ends.to_nx,L2.Ends.to_rt,L2.ah,sA,sB])
namespace HT
open PySem PyProof.Rows
section
open PySem.SeqAt
open PySem.AutoSeq1 (wpAny_loadPart')
open PySem.MeetsSeq PySem.MeetsSeq2 PySem.MeetsSeq3
end
section
variable {prog:Program}{w:World}{A:Around}{E:Value->Shared->Prop}{s:Shared}
def sIx (n d:Nat):Option Int->Nat
 |none=>d
 |some v=>if v < 0 then (v+(n:Int)).toNat else min v.toNat n
end
end HT
namespace L2
open PySem PySem.Spec PyProof.Rows
abbrev TO:=St->Hp->(Option Int->Hp->Prop)->Prop
def PO (X:Cx)(e:Option Expr)(t:TO):Prop:=
 ∀(w9:List (Addr×Obj)) (s:Shared) (σ:St) (H:Hp) (Q:Option Int->Hp->Prop),Inv X w9 σ H s->t σ H Q →
  wpAny (model X.prog X.w) X.A (evalPart e X.env) (λu s'=>∃o H',Inv X w9 σ H' s'/\IsPart u o/\Q o H') X.xe s
def kN:TO:=λ_ H Q=>Q none H
inductive tPart.I (Q:(Option Int->Hp->Prop))(x:V)(H1:Hp):Prop
 |mk (i)(_:x = .int i)(_:Q (some i) H1)
def tPart (t:TE):TO:=λσ H Q=>t σ H (tPart.I Q)
section
variable {X:Cx}{e:Expr}{te:TE}{lo hi:Option Expr}{tl th:TO}{pos p2:Pos}
def uC:PO X none kN:=by
 intro w9 s σ H Q I h;rw[evalPart_none];exact wpAny_pure ⟨none,H,I, .none,h⟩
def uD (h:PE X e te):PO X (some e) (tPart te):=by
 intro w9 s σ H Q I hw;rw[evalPart_some];refine thn (h w9 s σ H _ I hw) λu s1 ⟨x,H1,I1,r1,q1⟩=>?_;obtain⟨i,rfl,q⟩:=q1;obtain⟨t,rfl⟩:=r1;exact⟨some i,H1,I1, .int i t,q⟩
def SlR (X:Cx)(r:V->Option Int->Option Int->Hp->VK->Prop):Prop:=
 ∀(w9:List (Addr×Obj)) (s:Shared) (σ:St) (H:Hp) (x:V) (v vl vu:Value) (lo hi:Option Int) (sl:Addr) (Q:VK),Inv X w9 σ H s->RelV x v->s.heap.IsSliceOf sl vl vu .none->IsPart vl lo->IsPart vu hi->r x lo hi H Q →
  ∃T id,typeLookup (.type T) "__getitem__"=pure (some (.builtin id))/\s.TypeIs v T/\wpAny (model X.prog X.w) X.A (getItem v (.ref sl)) (EP X w9 σ Q) X.xe s
abbrev tSl.K2 (r:V->Option Int->Option Int->Hp->VK->Prop) (Q:VK) (x:V) (l:Option Int) (u:Option Int) (H3:Hp):Prop:=r x l u H3 Q
abbrev tSl.K1 (r:V->Option Int->Option Int->Hp->VK->Prop) (th:TO) (σ:St) (Q:VK) (x:V) (l:Option Int) (H2:Hp):Prop:=th σ H2 (tSl.K2 r Q x l)
abbrev tSl.K0 (r:V->Option Int->Option Int->Hp->VK->Prop) (tl:TO) (th:TO) (σ:St) (Q:VK) (x:V) (H1:Hp):Prop:=tl σ H1 (tSl.K1 r th σ Q x)
def tSl (r:V->Option Int->Option Int->Hp->VK->Prop)(te:TE)(tl th:TO):TE:=λσ H Q=>te σ H (tSl.K0 r tl th σ Q)
def rz {r:V->Option Int->Option Int->Hp->VK->Prop}(hr:SlR X r)(he:PE X e te)(hl:PO X lo tl)(hu:PO X hi th):PE X (.Subscript e (.Slice lo hi none p2) pos) (tSl r te tl th):=by
 intro w9 s σ H Q I h;refine Subscript_ (thn (he w9 s σ H _ I h) λv s1 ⟨x,H1,I1,r1,q1⟩=>?_);refine wpAny_Slice (thn (hl w9 s1 σ H1 _ I1 q1) λvl s2 ⟨l,H2,I2,pl,q2⟩=>thn (hu w9 s2 σ H2 _ I2 q2) λvu s3 ⟨u,H3,I3,pu,q3⟩=>?_);rw[evalPart_none];refine wpAny_pure ?_;have I4:Inv X w9 σ H3 { s3 with heap:=s3.heap.push { cls := .type "slice",data := .fields #[vl,vu, .none] } }:=I3.kept (t':=s3.toks) λb ob q=>Heap.get?_push_of_some _ q;obtain⟨T,id,hT,ht,hg⟩:=hr w9 { s3 with heap:=s3.heap.push { cls := .type "slice",data := .fields #[vl,vu, .none] } } σ H3 x v vl vu l u s3.heap.objs.size Q I4 r1 (Heap.IsSliceOf.new ..) pl pu q3;show wpAny (model X.prog X.w) X.A (subscriptTail e (.Slice lo hi none p2) v (.ref s3.heap.objs.size)) (EP X w9 σ Q) X.xe { s3 with heap:=s3.heap.push { cls := .type "slice",data := .fields #[vl,vu, .none] } };exact tail_any (ops:=[.ref s3.heap.objs.size,v]) ht hT hg (by with_unfolding_all rfl)
def cutV (xs:List V)(lo hi:Option Int):List V:=(xs.drop (HT.sIx xs.length 0 lo)).take (HT.sIx xs.length xs.length hi - HT.sIx xs.length 0 lo)
def kO (xs:List V)(lo hi:Option Int):(cutV xs lo hi).length<=xs.length:=by
 unfold cutV;rw[l30,l13];omega
end
def ixN (n:Nat)(i:Int):Option Nat:=if 0<=i then (if i < n then some i.toNat else none) else if -(n:Int)<=i then some (i+n).toNat else none
def atI {α:Type}(xs:List α)(i:Int):Option α:=(ixN xs.length i).bind λj=>xs[j]?
def oJ {n:Nat}{i:Int}{j:Nat}(h:ixN n i=some j):seqIndex? i n=some j/\j < n /\ -(n:Int)<=i/\i < n:=by
 unfold ixN at h;by_cases h0:0<=i
 ·rw[if_pos h0] at h;by_cases h1:i < n
  ·rw[if_pos h1] at h;have e:i.toNat=j:=Option.some.inj h;exact⟨by rw[seqIndex_of h0 h1,e],by omega,by omega,h1⟩
  ·rw[if_neg h1] at h;cases h
 ·rw[if_neg h0] at h;by_cases h1 : -(n:Int)<=i
  ·rw[if_pos h1] at h;have e:(i+n).toNat=j:=Option.some.inj h;exact⟨by rw[seqIndex_neg nofun h1,e],by omega,h1,by omega⟩
  ·rw[if_neg h1] at h;cases h
def kP {α:Type}{xs:List α}{i:Int}{v:α}(h:atI xs i=some v):∃j,seqIndex? i xs.length=some j/\xs[j]? = some v/\j < xs.length /\ -(xs.length:Int)<=i/\i < xs.length:=by
 unfold atI at h;cases e:ixN xs.length i with
 |none=>rw[e] at h;cases h
 |some j=>
  rw[e] at h;obtain⟨h1,h2,h3,h4⟩:=oJ e;exact⟨j,h1,h,h2,h3,h4⟩
def am {α:Type}{xs:List α}{j:Nat}{v:α}(h:xs[j]? = some v):atI xs (j:Int)=some v:=by
 have hj:j < xs.length:=(List.getElem?_eq_some_iff.mp h).1;have e:ixN xs.length (j:Int)=some j:=by
  unfold ixN;rw[if_pos nofun,if_pos nofun];simp
 unfold atI;rw[e];exact h
def iC {α:Type}(xs:List α)(v:α):atI (xs++[v]) (-1)=some v:=by
 have hl:(xs++[v]).length=xs.length+1:=by simp
 have e:ixN (xs++[v]).length (-1)=some xs.length:=by
  unfold ixN;rw[hl,if_neg ∅,if_pos nofun];congr 1;omega
 unfold atI;rw[e];show (xs++[v])[xs.length]? = some v;simp
def oK (b:Expr):Prop:=∀o i,subscripted b false o i=operate [o,i] (getItem o i)
def IxR (X:Cx)(r:R2):Prop:=
 ∀(value slice:Expr) (w9:List (Addr×Obj)) (s:Shared) (σ:St) (H:Hp) (x y:V) (v u:Value) (Q:VK),Inv X w9 σ H s->RelV x v->RelV y u->r x y H Q →
  subscripted slice false v u=operate [v,u] (getItem v u)->wpAny (model X.prog X.w) X.A (subscriptTail value slice v u) (EP X w9 σ Q) X.xe s
def MtR (X:Cx)(id:String)(r:V->List V->Hp->VK->Prop):Prop:=
 ∀(w9:List (Addr×Obj)) (s:Shared) (σ:St) (H:Hp) (x:V) (xs:List V) (v:Value) (us:List Value) (Q:VK),Inv X w9 σ H s->RelV x v->Vals xs us->r x xs H Q →
  wpAny (model X.prog X.w) X.A (call (.builtin id) (v::us)) (EP X w9 σ Q) X.xe s
section
variable {X:Cx}{a b:Expr}{ta tb:TE}{pos:Pos}
def xV {r:R2}(hr:IxR X r)(ha:PE X a ta)(hb:PE X b tb)(hs:oK b):PE X (.Subscript a b pos) (tOp r ta tb):=by
 intro w9 s σ H Q I h;exact Subscript_ (binT ha hb I h λv u s2 x y H2 I2 rx ry q=>hr a b w9 s2 σ H2 x y v u Q I2 rx ry q (hs _ _))
inductive rIxL (K:Frag)(x y:V)(H:Hp)(Q:VK):Prop
 |mk (p xs i v)(_:x = .ref p)(_:y = .int i)(_:SqL K H p xs)(_:atI xs i=some v)(_:Q v H)
inductive rIxT (K:Frag)(x y:V)(H:Hp)(Q:VK):Prop
 |mk (p xs i v)(_:x = .ref p)(_:y = .int i)(_:SqT K H p xs)(_:atI xs i=some v)(_:Q v H)
inductive rIxS (x y:V)(H:Hp)(Q:VK):Prop
 |mk (z i c)(_:x = .str z)(_:y = .int i)(_:z.length<=sizeLine)(_:atI z.cps.toList i=some c)(_:Q (.str ⟨#[c]⟩) H)
def ax:IxR X (rIxL X.K):=by
 intro value slice w9 s σ H x y v u Q I rx ry h hs;obtain⟨p,xs,i,z,rfl,rfl,hq,he,q⟩:=h;cases rx;obtain⟨t,rfl⟩:=ry;obtain⟨its,r,pl,hz⟩:=I.list hq;obtain⟨j,h1,h2,h3,h4,h5⟩:=kP he;obtain⟨w,ew,rw'⟩:=r.get h2;have hl:=r.length;have hn:=hJ;have fin:EP X w9 σ Q w s:=⟨z,H,I,rw',q⟩;by_cases h0:0<=i
 ·have hj:i.toNat=j:=by
   rw[seqIndex_of h0 h5] at h1;exact Option.some.inj h1
  exact item_listR pl.isList h0 nofun (by rw[hj];simpa using ew) fin hs
 ·have hj:(i+(its.toArray.size:Int)).toNat=j:=by
   rw[seqIndex_neg nofun h4] at h1;rw[l26,<- hl];exact Option.some.inj h1
  exact subscriptTail_builtinR (x:=w) pl.isList.typeIs slot_list_getitem.lookup
   (wpAny_getItem_list_neg (Q:=λr s'=>r=w/\EP X w9 σ Q r s') pl.isList nofun (by rw[l26] <;> omega) nofun (by rw[hj];simpa using ew) ⟨rfl,fin⟩) hs
def aB:IxR X (rIxT X.K):=by
 intro value slice w9 s σ H x y v u Q I rx ry h hs;obtain⟨p,xs,i,z,rfl,rfl,hq,he,q⟩:=h;cases rx;obtain⟨t,rfl⟩:=ry;obtain⟨its,r,pl,hz⟩:=I.tuple hq;obtain⟨j,h1,h2,h3,h4,h5⟩:=kP he;obtain⟨w,ew,rw'⟩:=r.get h2;have hl:=r.length;have hn:=hJ;have fin:EP X w9 σ Q w s:=⟨z,H,I,rw',q⟩;exact subscriptTail_builtinR (x:=w) pl.typeIs slot_tuple_getitem.lookup
  (getItem_tuple (j:=j) (Q:=λr s'=>r=w/\EP X w9 σ Q r s') pl nofun nofun (by rw[l26,<- hl];exact h1) (by simpa using ew) ⟨rfl,fin⟩) hs
def dq:IxR X rIxS:=by
 intro value slice w9 s σ H x y v u Q I rx ry h hs;obtain⟨z,i,c,rfl,rfl,hz,he,q⟩:=h;obtain⟨t,rfl⟩:=rx;obtain⟨t',rfl⟩:=ry;obtain⟨j,h1,h2,h3,h4,h5⟩:=kP he;have hl:z.cps.toList.length=z.length:=by simp[Str.length]
 rw[hl] at h1 h4 h5;have hn:=hJ;exact tail_any (typeIs_str s z t) slot_str_getitem.lookup (getItem_str (c := c) (by
  have e1:decide (i < -(2 ^ 63:Int))=false:=decide_eq_false nofun;have e2:decide (i ≥ 2 ^ 63)=false:=decide_eq_false nofun;rw[e1,e2,Bool.or_false]) (by rw[h1];simpa using h2) ⟨.str ⟨#[c]⟩,H,I.tok _,⟨_,rfl⟩,q⟩) hs
def ny (its:List Value)(n j:Nat)(u:Value):Obj.mapSeq (·.setIfInBounds j u) { cls := .type "list",data := .seq its.toArray n }={ cls := .type "list",data := .seq (its.set j u).toArray n }:=by
 simp[Obj.mapSeq]
def Inv.lst {w9:List (Addr×Obj)}{σ:St}{H:Hp}{s:Shared}{p:Addr}{xs:List V}(I:Inv X w9 σ H s)(h:H p=some (.lst xs)):
  ∃(its:List Value) (n:Nat),Vals xs its/\s.heap.get? p=some { cls := .type "list",data := .seq its.toArray n }/\xs.length<=sizeLine:=by
 obtain⟨z,its,n,r,e⟩:=I.hok p _ h;exact⟨its,n,r,e,z⟩
def Inv.lstUpd {w9:List (Addr×Obj)}{σ:St}{H:Hp}{s:Shared}{p:Addr}{xs ys:List V}{its its':List Value}{n n':Nat}{f:Obj->Obj}(I:Inv X w9 σ H s)(h:H p=some (.lst xs))
  (ho:s.heap.get? p=some { cls := .type "list",data := .seq its.toArray n }) (hf:f { cls := .type "list",data := .seq its.toArray n }={ cls := .type "list",data := .seq its'.toArray n' }) (r:Vals ys its') (hz:ys.length<=sizeLine) (t:Nat) (ht:0 < t:=by first |assumption |exact l37 _ |(apply Inv.tk;assumption)):
  Inv X w9 σ (upd H p (.lst ys)) { s with heap:=s.heap.update p f,toks:=t }:=by
 have e:(s.heap.update p f).get? p=some { cls := .type "list",data := .seq its'.toArray n' }:=by
  rw[Heap.get?_update_self f ho (by rw[hf] <;> rfl),hf]
 refine I.write (x:=p) (e:=p) (by rw[h];trivial) (.inl rfl) (λb u hb q=>(Heap.get?_update_other _ _ (Ne.symm hb)).trans q) ⟨_,e⟩ ?_;exact⟨hz,its',n',r,e⟩
inductive rSetL (o i v:V)(H:Hp)(Q:(Hp->Prop)):Prop
 |mk (p xs k j)(_:o = .ref p)(_:i = .int k)(_:H p=some (.lst xs))(_:ixN xs.length k=some j)(_:Q (upd H p (.lst (xs.set j v))))
def rD:PSet X rSetL:=by
 intro w9 s σ H o i v ov iv u Q I ro ri rv h;obtain⟨p,xs,k,j,rfl,rfl,hp,hj,q⟩:=h;cases ro;obtain⟨t,rfl⟩:=ri;obtain⟨its,n,r,ho,hz⟩:=I.lst hp;obtain⟨h1,h2,h3,h4⟩:=oJ hj;have hl:=r.length;have hn:=hJ;have I':Inv X w9 σ (upd H p (.lst (xs.set j v))) { s with heap:=s.heap.update p (Obj.mapSeq (·.setIfInBounds j u)) }:=
  I.lstUpd hp ho (ny its n j u) (r.set rv j) (by rw[l78];exact hz) s.toks
 by_cases h0:0<=k
 ·have hk:k.toNat=j:=by
   rw[seqIndex_of h0 h4] at h1;exact Option.some.inj h1
  exact PySem.W.ki_setAt ho h0 nofun (by rw[l26,<- hl];exact h4) (by rw[hk];exact⟨_,I',q⟩)
 ·have hk:(k+(its.toArray.size:Int)).toNat=j:=by
   rw[seqIndex_neg nofun h3] at h1;rw[l26,<- hl];exact Option.some.inj h1
  exact PySem.W.ki_setBack ho nofun (by rw[l26,<- hl];exact h3) nofun (by rw[hk];exact⟨_,I',q⟩)
def jG (lo hi:Option Int)(n:Nat):(sliceBounds lo hi none n).1=((HT.sIx n 0 lo:Nat):Int)/\(sliceBounds lo hi none n).2.1=((HT.sIx n n hi:Nat):Int)/\(sliceBounds lo hi none n).2.2=1:=by
 refine⟨?_,?_,rfl⟩
 ·cases lo with
  |none=>simp[sliceBounds,HT.sIx]
  |some i=>
   simp only[sliceBounds,HT.sIx,Option.getD_none,show (1:Int) > 0 by decide,if_true];by_cases h:i < 0
   ·simp only[h,if_true] <;> omega
   ·simp only[h,if_false] <;> omega
 ·cases hi with
  |none=>simp[sliceBounds,HT.sIx]
  |some i=>
   simp only[sliceBounds,HT.sIx,Option.getD_none,show (1:Int) > 0 by decide,if_true];by_cases h:i < 0
   ·simp only[h,if_true] <;> omega
   ·simp only[h,if_false] <;> omega
def iD (its:List Value)(lo hi:Option Int):slicePick its.toArray lo hi none=((its.drop (HT.sIx its.length 0 lo)).take (HT.sIx its.length its.length hi - HT.sIx its.length 0 lo)).toArray:=by
 obtain⟨h1,h2,h3⟩:=jG lo hi its.toArray.size;unfold slicePick;rw[h1,h2,h3];simp only[sliceRange_one,pick_run,l26] <;> rfl
inductive rSlL (K:Frag)(x:V)(lo hi:Option Int)(H:Hp)(Q:VK):Prop
 |mk (a xs)(_:x = .ref a)(_:SqL K H a xs)(_:∀p,H p=none->Q (.ref p) (upd H p (.lst (cutV xs lo hi))))
def iE:SlR X (rSlL X.K):=by
 intro w9 s σ H x v vl vu lo hi sl Q I rx hs pl pu h;obtain⟨a,xs,rfl,hx,q⟩:=h;cases rx;obtain⟨its,r,ht,hz⟩:=I.list hx;have w6:=r.length;refine⟨"list",_,slot_list_getitem.lookup,ht.isList.typeIs,?_⟩;refine wpAny_getItem_list_slice ht.isList hs pl pu .none (by simp) ?_ (by rw[l26] <;> omega)
 rw[iD,<- w6];refine⟨.ref s.heap.objs.size,_,I.laid (t':=s.toks) (o := .lst (cutV xs lo hi)) (λb ob q=>Heap.get?_push_of_some _ q) (l5 _) ?_,rfl,q _ (I.hok.fresh (l5 _))⟩;exact⟨l11 (kO xs lo hi) hz,_,0,(r.drop (HT.sIx xs.length 0 lo)).take (HT.sIx xs.length xs.length hi - HT.sIx xs.length 0 lo),Heap.get?_push_size _ rfl⟩
def jH:V->Bool
 | .non=>true
 | .bl _=>true
 | .int _=>true
 | .str _=>true
 |_=>false
def eqV:V->V->Bool
 | .non, .non=>true
 | .bl a, .bl b=>a==b
 | .bl a, .int b=>(if a then 1 else 0)==b
 | .int a, .bl b=>a==(if b then 1 else 0)
 | .int a, .int b=>a==b
 | .str a, .str b=>a==b
 |_,_=>false
def wz {A:Around}{s:Shared}{y x:V}{u v:Value}(ry:RelV y u)(rx:RelV x v)(fy:jH y=true)(fx:jH x=true):SeqAt.EqAt A s u v (eqV y x):=by
 cases y with
 |non=>
  cases ry;cases x with
  |non=>cases rx;exact SeqAt.EqAt.same _
  |bl b=>cases rx;exact SeqAt.EqAt.none_bool b
  |int b=>obtain⟨t,rfl⟩:=rx;exact SeqAt.EqAt.none_int b t
  |str b=>obtain⟨t,rfl⟩:=rx;exact SeqAt.EqAt.none_str b t
  |_=>exact absurd (show false=true from fx) Bool.false_ne_true
 |bl a=>
  cases ry;cases x with
  |non=>cases rx;exact SeqAt.EqAt.bool_none a
  |bl b=>cases rx;exact SeqAt.EqAt.bool_bool a b
  |int b=>obtain⟨t,rfl⟩:=rx;exact SeqAt.EqAt.bool_int a b t
  |str b=>obtain⟨t,rfl⟩:=rx;exact SeqAt.EqAt.bool_str a b t
  |_=>exact absurd (show false=true from fx) Bool.false_ne_true
 |int a=>
  obtain⟨t',rfl⟩:=ry;cases x with
  |non=>cases rx;exact SeqAt.EqAt.int_none a t'
  |bl b=>cases rx;exact SeqAt.EqAt.int_bool a t' b
  |int b=>obtain⟨t,rfl⟩:=rx;exact SeqAt.EqAt.int_int a t' b t
  |str b=>obtain⟨t,rfl⟩:=rx;exact SeqAt.EqAt.int_str a t' b t
  |_=>exact absurd (show false=true from fx) Bool.false_ne_true
 |str a=>
  obtain⟨t',rfl⟩:=ry;cases x with
  |non=>cases rx;exact SeqAt.EqAt.str_none a t'
  |bl b=>cases rx;exact SeqAt.EqAt.str_bool a t' b
  |int b=>obtain⟨t,rfl⟩:=rx;exact SeqAt.EqAt.str_int a t' b t
  |str b=>obtain⟨t,rfl⟩:=rx;exact SeqAt.EqAt.str_str a t' b t
  |_=>exact absurd (show false=true from fx) Bool.false_ne_true
 |_=>exact absurd (show false=true from fy) Bool.false_ne_true
def eqU (x:V)(u:Value):Bool:=match u with
 | .none=>eqV .non x
 | .bool b=>eqV (.bl b) x
 | .int i _=>eqV (.int i) x
 | .str z _=>eqV (.str z) x
 |_=>false
def tz {x y:V}{u:Value}(r:RelV y u)(f:jH y=true):eqU x u=eqV y x:=by
 cases y with
 |non=>cases r;rfl
 |bl b=>cases r;rfl
 |int i=>obtain⟨t,rfl⟩:=r;rfl
 |str z=>obtain⟨t,rfl⟩:=r;rfl
 |_=>exact absurd (show false=true from f) Bool.false_ne_true
theorem kR {x:V}:∀{xs:List V} {us:List Value},Vals xs us->xs.all jH=true->us.any (eqU x)=xs.any λy=>eqV y x
 |_,_, .nil,_=>rfl
 |y::xs,u::us, .cons r t,f=>by
  rw[List.all_cons,Bool.and_eq_true] at f;rw[List.any_cons,List.any_cons,tz r f.1,kR t f.2]
theorem iF {A:Around}{s:Shared}{x:V}{v:Value}(rx:RelV x v)(fx:jH x=true):∀{xs:List V} {us:List Value},Vals xs us->xs.all jH=true->∀u∈us,SeqAt.EqAt A s u v (eqU x u)
 |_,_, .nil,_=>λu hu=>by cases hu
 |y::xs,u::us, .cons r t,f=>λu' hu=>by
  rw[List.all_cons,Bool.and_eq_true] at f;rcases l9.mp hu with rfl |hu
  ·rw[tz r f.1];exact wz r rx f.1 fx
  ·exact iF rx fx t f.2 u' hu
def inV (x:V)(xs:List V):Bool:=xs.any λy=>eqV y x
inductive rIn (K:Frag)(neg:Bool)(x y:V)(H:Hp)(Q:VK):Prop
 |mk (p xs)(_:y = .ref p)(_:SqL K H p xs ∨ SqT K H p xs)(_:jH x=true)(_:xs.all jH=true)(_:Q (.bl (if neg then !inV x xs else inV x xs)) H)
def jI:OpR X (compareOp .NotIn) (rIn X.K true):=by
 intro w9 s σ H x y v u Q I rx ry h;obtain⟨p,xs,rfl,hq,fx,fs,q⟩:=h;cases ry;rcases hq with hq |hq
 ·obtain⟨its,r,pl,hz⟩:=I.list hq;refine SeqAt.notIn_listAt (eqU x) pl.isList (λw hw=>iF rx fx r fs w (by simpa using hw)) ⟨.bl _,H,I,rfl,?_⟩;rw[show its.toArray.any (eqU x)=its.any (eqU x) by simp,kR r fs];exact q
 ·obtain⟨its,r,pl,hz⟩:=I.tuple hq;refine SeqAt.notIn_tupleAt (eqU x) pl (λw hw=>iF rx fx r fs w (by simpa using hw)) ⟨.bl _,H,I,rfl,?_⟩;rw[show its.toArray.any (eqU x)=its.any (eqU x) by simp,kR r fs];exact q
inductive R_call_len_seq (K:Frag)(xs:List V)(H:Hp)(Q:VK):Prop
 |mk (p ys)(_:xs=[.ref p])(_:SqL K H p ys ∨ SqT K H p ys)(_:Q (.int ys.length) H)
def aj:cQ X (.builtin "len") (R_call_len_seq X.K):=by
 intro w9 s σ H xs us Q I r h;obtain⟨p,ys,rfl,hq,q⟩:=h;obtain⟨u,rfl,rx⟩:=iA r;cases rx;have hn:=hJ;rcases hq with hq |hq
 ·obtain⟨its,r',pl,hz⟩:=I.list hq;have w6:=r'.length;exact Calls.call_len_list pl.isList (by simp only[l26] <;> omega) ⟨.int ys.length,H,I.tok _,⟨s.toks+1,by rw[l26,w6]⟩,q⟩
 ·obtain⟨its,r',pl,hz⟩:=I.tuple hq;have w6:=r'.length;exact len_tuple pl (by simp only[l26] <;> omega) ⟨.int ys.length,H,I.tok _,⟨s.toks+1,by rw[l26,w6]⟩,q⟩
inductive R_call_len_str (xs:List V)(H:Hp)(Q:VK):Prop
 |mk (z)(_:xs=[.str z])(_:z.length<=sizeLine)(_:Q (.int z.length) H)
def aw:cQ X (.builtin "len") R_call_len_str:=by
 intro w9 s σ H xs us Q I r h;obtain⟨z,rfl,hz,q⟩:=h;obtain⟨u,rfl,t,rfl⟩:=iA r;have hn:=hJ;exact len_str nofun ⟨.int z.length,H,I.tok _,⟨_,rfl⟩,q⟩
inductive R_call_list_of (K:Frag)(xs:List V)(H:Hp)(Q:VK):Prop
 |mk (p ys)(_:xs=[.ref p])(_:SqL K H p ys ∨ SqT K H p ys)(_:∀l,H l=none->Q (.ref l) (upd H l (.lst ys)))
def aD:cQ X (.type "list") (R_call_list_of X.K):=by
 intro w9 s σ H xs us Q I r h;obtain⟨p,ys,rfl,hq,q⟩:=h;obtain⟨u,rfl,rx⟩:=iA r;cases rx;have fin:∀(its:List Value),Vals ys its->ys.length<=sizeLine->∀(h':Heap) (c':Nat),(∀b o',s.heap.get? b=some o'->h'.get? b=some o') →
   h'.get? s.heap.objs.size=some { cls := .type "list",dict:=none,data := .seq its.toArray c',slots := #[] }->EP X w9 σ Q (.ref s.heap.objs.size) { s with heap:=h' }:=λits r' hz h' c' kp e=>
  ⟨.ref s.heap.objs.size,_,I.laid (t':=s.toks) kp (l5 _) (show ObjOk X.prog X.w _ h' _ (.lst ys) from ⟨hz,its,c',r',e⟩),rfl,q _ (I.hok.fresh (l5 _))⟩
 rcases hq with hq |hq
 ·obtain⟨its,r',pl,hz⟩:=I.list hq;have w6:=r'.length;obtain⟨o,ho,hc,n,hd⟩:=pl.isList;exact call_list_seq p (.inl rfl) ho hc hd (λh' c' kp e=>fin its r' hz h' c' kp e) (by simp only[l26] <;> omega)
 ·obtain⟨its,r',pl,hz⟩:=I.tuple hq;have w6:=r'.length;obtain⟨o,ho,hc,n,hd⟩:=pl;exact call_list_seq p (.inr rfl) ho hc hd (λh' c' kp e=>fin its r' hz h' c' kp e) (by simp only[l26] <;> omega)
def tyV (K:Frag)(T:String)(x:V)(H:Hp):Prop:=match x with
 | .str _=>T="str"
 | .int _=>T="int"
 | .ref p=>(T="list"/\∃xs,SqL K H p xs) ∨ (T="tuple"/\∃o,K.lookup p=some o/\o.cls = .type "tuple"/\o.dict=none) ∨
   (T="dict"/\((∃kvs,H p=some (.dK kvs)) ∨ ∃kvs,H p=some (.dT kvs))) ∨ (T="set"/\∃S n,H p=some (.set S n))
 |_=>False
def tD {w9:List (Addr×Obj)}{σ:St}{H:Hp}{s:Shared}{T:String}{x:V}{v:Value}(I:Inv X w9 σ H s)(r:RelV x v)(ty:tyV X.K T x H):
  s.TypeIs v T/\∀a,v = .ref a->∃ob,s.heap.get? a=some ob/\ob.dict=none:=by
 cases x with
 |str z=>
  obtain⟨t,rfl⟩:=r;cases (show T="str" from ty);exact⟨typeIs_str s z t,λ_ e=>nomatch e⟩
 |int i=>
  obtain⟨t,rfl⟩:=r;cases (show T="int" from ty);exact⟨typeIs_int s i t,λ_ e=>nomatch e⟩
 |ref p=>
  cases r;rcases ty with ⟨rfl,xs,hq⟩ |⟨rfl,o,hk,hc,hd⟩ |⟨rfl,hk⟩ |⟨rfl,S,n,hk⟩
  ·obtain⟨its,_,pl,_⟩:=I.list hq;refine⟨pl.isList.typeIs,λa e=>?_⟩;cases e;obtain⟨o,n,e,c,hd,_⟩:=pl;exact⟨o,e,hd⟩
  ·refine⟨⟨o,I.kIn p o hk,hc⟩,λa e=>?_⟩;cases e;exact⟨o,I.kIn _ o hk,hd⟩
  ·have z:∃o,s.heap.get? p=some o/\o.ExactDict:=by
    rcases hk with ⟨kvs,hk⟩ |⟨kvs,hk⟩
    ·obtain⟨_,_,_,_,o,_,_,e,ex,_⟩:=I.hok p _ hk;exact⟨o,e,ex⟩
    ·obtain⟨_,_,_,_,o,_,_,e,ex,_⟩:=I.hok p _ hk;exact⟨o,e,ex⟩
   obtain⟨o,e,ex⟩:=z;refine⟨⟨o,e,ex.1⟩,λa e2=>?_⟩;cases e2;exact⟨o,e,ex.2.1⟩
  ·obtain⟨o,_,_,_,e,ex,_⟩:=I.hok p _ hk;refine⟨⟨o,e,ex.1⟩,λa e2=>?_⟩;cases e2;exact⟨o,e,ex.2.1⟩
 |_=>exact False.elim ty
inductive tBM0.I (K:Frag)(T:String)(r:V->List V->Hp->VK->Prop)(Q:VK)(x:V)(H1:Hp):Prop
 |mk (_:tyV K T x H1)(_:r x [] H1 Q)
def tBM0 (K:Frag)(T:String)(r:V->List V->Hp->VK->Prop)(to:TE):TE:=λσ H Q=>to σ H (tBM0.I K T r Q)
inductive tBM.I (K:Frag)(T:String)(r:V->List V->Hp->VK->Prop)(t:TA)(σ:St)(Q:VK)(x:V)(H1:Hp):Prop
 |mk (_:tyV K T x H1)(_:t σ H1 λxs H2=>r x xs H2 Q)
def tBM (K:Frag)(T:String)(r:V->List V->Hp->VK->Prop)(to:TE)(t:TA):TE:=λσ H Q=>to σ H (tBM.I K T r t σ Q)
variable {o e:Expr}{es:List Expr}{to:TE}{t:TA}{name:Str}{y9 y8:Pos}{T id:String}{r:V->List V->Hp->VK->Prop}
def wD (pa:PlainAttrs T)(slot:Slot T name id)(hty:typeOf (.builtin id)=pure (.type "method_descriptor"))(hm:MtR X id r)(ho:PE X o to)
  (j7:attributeBase o name X.env (eval o X.env)=eval o X.env:=by rfl) (y3:(y9.endLine==y8.line)=true:=by rfl):PE X (.Call (.Attribute o name y9) [] [] y8) (tBM0 X.K T r to):=by
 intro w9 s σ H Q I h;refine wpAny_Call_method0_late j7 y3 (thn (ho w9 s σ H _ I h) λv s1 ⟨x,H1,I1,r1,ty,q1⟩=>?_);obtain⟨h1,h2⟩:=tD I1 r1 ty;exact⟨T,id,pa,slot,hty,h1,h2,Calls.callWith_builtin rfl (PySem.evalArgs_none (hm w9 s1 σ H1 x [] v [] Q I1 r1 .nil q1))⟩
def xW (pa:PlainAttrs T)(slot:Slot T name id)(hty:typeOf (.builtin id)=pure (.type "method_descriptor"))(hm:MtR X id r)(ho:PE X o to)(ha:PA X (e::es) t)
  (j7:attributeBase o name X.env (eval o X.env)=eval o X.env:=by rfl)
  (hfew : ((backTo y8 (starEach (e::es) X.env)).all (λx => !x.1)&&(backToKw y8 (keywordEach [] X.env)).all (λx=>x.1.isSome)
   && decide ((e::es).length+([]:List Keyword).length+(if ([]:List Keyword).isEmpty then 0 else 1) < 30))=true:=by rfl)
  (y3:(y9.endLine==y8.line)=true:=by rfl) (hs:starEach (e::es) X.env=(false,eval e X.env)::starEach es X.env:=by rfl) (hplain:(backTo y8 (starEach es X.env)).any (·.1)=false:=by rfl):
  PE X (.Call (.Attribute o name y9) (e::es) [] y8) (tBM X.K T r to t):=by
 intro w9 s σ H Q I h;refine wpAny_Call_method_late j7 hfew y3 rfl (thn (ho w9 s σ H _ I h) λv s1 ⟨x,H1,I1,r1,ty,q1⟩=>?_);obtain⟨h1,h2⟩:=tD I1 r1 ty;refine⟨T,id,pa,slot,hty,h1,h2,?_⟩;have hA:=ha y8 w9 s1 σ H1 _ I1 q1;rw[hs] at hA ⊢;refine Calls.callWith_builtin (by show (false||(backTo y8 (starEach es X.env)).any (·.1))=false;rw[hplain] <;> rfl) (Calls.evalArgs_plain ?_)
 exact thn hA λus s2 ⟨vs,H2,I2,r2,q2⟩=>hm w9 s2 σ H2 x vs v us Q I2 r1 r2 q2
end
def MtM (X:Cx)(id:String)(r:V->List V->Hp->VK->Prop):Prop:=
 ∀(w9:List (Addr×Obj)) (s:Shared) (σ:St) (H:Hp) (x:V) (xs:List V) (v:Value) (us:List Value) (Q:VK),Inv X w9 σ H s->RelV x v->Vals xs us->r x xs H Q →
  wpAny (model X.prog X.w) X.A (call (.builtin id) (v::us)) (EP X w9 σ Q) X.xe s
def Vals.one {x:V}{us:List Value}:Vals [x] us->∃u,us=[u]/\RelV x u:=iA
def Vals.two {x y:V}{us:List Value}(h:Vals [x,y] us):∃u v,us=[u,v]/\RelV x u/\RelV y v:=by
 cases h with
 |cons r t=>
  cases t with
  |cons q z=>
   cases z;exact⟨_,_,rfl,r,q⟩
theorem Vals.zero:∀{us:List Value},Vals [] us->us=[]
 |_, .nil=>rfl
theorem Vals.rep {xs:List V}{us:List Value}(h:Vals xs us):∀k:Nat,Vals (List.replicate k xs).flatten (List.replicate k us).flatten
 |0 => .nil
 |k+1=>by
  rw[l47,l47,l35,l35];exact Vals.append h (Vals.rep h k)
def jJ (its:List Value):∀(k:Nat) (acc:List Value),
  List.foldl (λx1 x2=>x1++x2) acc.toArray (List.replicate k its.toArray)=(acc++(List.replicate k its).flatten).toArray
 |0,acc=>by simp
 |k+1,acc=>by
  have e:acc.toArray++its.toArray=(acc++its).toArray:=by simp
  have e2:(acc++its)++(List.replicate k its).flatten=acc++(List.replicate (k+1) its).flatten:=by
   rw[l47,l35,l18]
  rw[<- e2,<- jJ its k (acc++its),<- e,l47,l79]
section
variable {X:Cx}{w9:List (Addr×Obj)}{σ:St}{H:Hp}{s:Shared}{l b:Addr}{xs ys zs:List V}
def Inv.lset {its its':List Value}{n:Nat}{f:Array Value->Array Value}{t':Nat}(I:Inv X w9 σ H s)(hH:H l=some (.lst xs))
  (e:s.heap.get? l=some { cls := .type "list",data := .seq its.toArray n }) (hf:f its.toArray=its'.toArray) (hv:Vals ys its') (hz:ys.length<=sizeLine) (ht:0 < t':=by first |assumption |exact l37 _ |(apply Inv.tk;assumption)):
  Inv X w9 σ (upd H l (.lst ys)) { s with heap:=s.heap.update l (Obj.mapSeq f),toks:=t' }:=by
 have q:=PySem.IsL.update e f;rw[hf] at q;refine I.write (x:=l) (e:=l) (by rw[hH];exact trivial) (.inl rfl) (λb' u hb hu=>(Heap.get?_update_other s.heap (Obj.mapSeq f) (Ne.symm hb)).trans hu) ⟨_,q⟩ ?_;exact⟨hz,its',_,hv,q⟩
def Inv.lnew {its:List Value}{t':Nat}(I:Inv X w9 σ H s)(hv:Vals ys its)(hz:ys.length<=sizeLine)(ht:0 < t':=by first |assumption |exact l37 _ |(apply Inv.tk;assumption)):
  Inv X w9 σ (upd H s.heap.objs.size (.lst ys)) { s with heap:=s.heap.push { cls := .type "list",data := .seq its.toArray },toks:=t' }:=
 I.laid (λ_ _ q=>Heap.get?_push_of_some _ q) (l5 _) ⟨hz,its,0,hv,Heap.get?_push_size _ rfl⟩
def Inv.fresh (I:Inv X w9 σ H s):H s.heap.objs.size=none:=I.hok.fresh (l5 _)
def Inv.lstM (I:Inv X w9 σ H s)(hH:H l=some (.lst xs)):xs.length<=sizeLine/\∃(its:List Value) (n:Nat),Vals xs its/\xs.length=its.length/\s.heap.get? l=some { cls := .type "list",data := .seq its.toArray n }:=by
 obtain⟨z,its,n,r,e⟩:=I.hok l _ hH;exact⟨z,its,n,r,r.length,e⟩
def mj {n:Nat}(h:n<=sizeLine):Builtin.List.listTooLong n=false:=by
 unfold Builtin.List.listTooLong;exact decide_eq_false nofun
end
section
variable {X:Cx}
inductive rAppend (x:V)(vs:List V)(H:Hp)(Q:VK):Prop
 |mk (l xs y)(_:x = .ref l)(_:vs=[y])(_:H l=some (.lst xs))(_:xs.length < sizeLine)(_:Q .non (upd H l (.lst (xs++[y]))))
def jK:MtM X "list.append" rAppend:=by
 intro w9 s σ H x vs v us Q I rx rv h;obtain⟨l,xs,y,rfl,rfl,hH,hz,q⟩:=h;cases rx;obtain⟨u,rfl,ru⟩:=rv.one;obtain⟨z,its,n,r,hl,e⟩:=I.lstM hH;refine call_meets F.slot_list_append ⟨_,e,rfl⟩ F.entry_list_append (F.args_list_append_2 _ _) (PySem.list_append l its.toArray n u (by rw[l26];omega)) ⟨e,?_⟩;refine⟨.non,_,I.lset (its':=its++[u]) hH e (by simp) (r.append (.cons ru .nil)) ?_,rfl,q⟩;rw[l6,List.length_singleton];omega
inductive rExtend (x:V)(vs:List V)(H:Hp)(Q:VK):Prop
 |mk (l b xs zs)(_:x = .ref l)(_:vs=[.ref b])(_:H l=some (.lst xs))(_:H b=some (.lst zs))(_:xs.length+zs.length<=sizeLine)(_:Q .non (upd H l (.lst (xs++zs))))
def oM:MtM X "list.extend" rExtend:=by
 intro w9 s σ H x vs v us Q I rx rv h;obtain⟨l,b,xs,zs,rfl,rfl,hH,hB,hz,q⟩:=h;cases rx;obtain⟨u,rfl,ru⟩:=rv.one;cases ru;obtain⟨z,its,n,r,hl,e⟩:=I.lstM hH;obtain⟨z2,v7,n2,r2,hl2,e2⟩:=I.lstM hB;have hsz:its.toArray.size+v7.toArray.size<=sizeLine:=by rw[l26,l26];omega
 have hlong:¬ (!its.toArray.isEmpty&&Builtin.List.listTooLong (its.toArray.size+v7.toArray.size))=true:=by
  rw[mj hsz,Bool.and_false];exact Bool.false_ne_true
 refine call_meets F.slot_list_extend ⟨_,e,rfl⟩ F.entry_list_extend (F.args_list_extend_2 _ _)
  (AutoSeq1.list_extend_list_list_0 l its.toArray n b v7.toArray n2 hlong (by rw[l26];omega) nofun) ⟨e,e2,?_⟩
 refine⟨.non,_,I.lset (its':=its++v7) hH e (by simp) (r.append r2) ?_,rfl,q⟩;rw[l6];omega
inductive rCat (x y:V)(H:Hp)(Q:VK):Prop
 |mk (l b xs zs)(_:x = .ref l)(_:y = .ref b)(_:H l=some (.lst xs))(_:H b=some (.lst zs))(_:xs.length+zs.length<=sizeLine)(_:∀p,H p=none->Q (.ref p) (upd H p (.lst (xs++zs))))
def bM:OpR X (binaryOp .Add) rCat:=by
 intro w9 s σ H x y v u Q I rx ry h;obtain⟨l,b,xs,zs,rfl,rfl,hH,hB,hz,q⟩:=h;cases rx;cases ry;obtain⟨z,its,n,r,hl,e⟩:=I.lstM hH;obtain⟨z2,v7,n2,r2,hl2,e2⟩:=I.lstM hB;refine PySem.P.add_list e e2 ?_ (by rw[l26,l26];omega);have ea:its.toArray++v7.toArray=(its++v7).toArray:=by simp
 rw[ea];exact⟨.ref _,_,I.lnew (t':=s.toks) (r.append r2) (by rw[l6];omega),rfl,q _ I.fresh⟩
inductive rRep (x y:V)(H:Hp)(Q:VK):Prop
 |mk (l k xs)(_:x = .ref l)(_:y = .int k)(_:H l=some (.lst xs))(_:-(2 ^ 63)<=k)(_:k < 2 ^ 63)(_:xs.length * k.toNat<=sizeLine)(_:∀p,H p=none->Q (.ref p) (upd H p (.lst (List.replicate k.toNat xs).flatten)))
def uE {α:Type}(xs:List α)(k:Nat):(List.replicate k xs).flatten.length=k * xs.length:=by
 induction k with
 |zero=>simp
 |succ k ih=>rw[l47,l35,l6,ih,Nat.succ_mul,l52]
def jL:OpR X (binaryOp .Mult) rRep:=by
 intro w9 s σ H x y v u Q I rx ry h;obtain⟨l,k,xs,rfl,rfl,hH,h1,h2,hz,q⟩:=h;cases rx;obtain⟨t,rfl⟩:=ry;obtain⟨z,its,n,r,hl,e⟩:=I.lstM hH;have w6:its.toArray.size * k.toNat<=sizeLine:=by rw[l26,<- hl];exact hz
 have hcap:¬ its.toArray.size * k.toNat > (2 ^ 63 - 1) / 8:=by
  have:(sizeLine:Nat)<=(2 ^ 63 - 1) / 8:=by decide
  omega
 have hfit:¬ (!Builtin.List.listFitsIndex k)=true:=by
  rw[fitsIndex_both h1 h2];exact Bool.false_ne_true
 have hlong:¬ Builtin.List.listTooLong (its.toArray.size * k.toNat)=true:=by
  rw[mj w6];exact Bool.false_ne_true
 have v9:List.foldl (λx1 x2=>x1++x2) #[] (List.replicate (if its.toArray.isEmpty=true then 0 else k.toNat) its.toArray)=(List.replicate k.toNat its).flatten.toArray:=by
  have f0:∀m:Nat,List.foldl (λx1 x2=>x1++x2) #[] (List.replicate m its.toArray)=(List.replicate m its).flatten.toArray:=λm=>by
   have:=jJ its m [];rw[l42] at this;exact this
  rw[f0];cases its with
  |nil=>simp
  |cons a r'=>rw[if_neg (by simp)]
 refine wpAny_binaryOp_repeat_ref (T:="list") (U:="int") ∅ ⟨_,e,rfl⟩ (λs'=>typeIs_int s' k t) noFill_list_mul F.fills_int_mul F.slot_int_rmul repeat_list F.slot_int_index.lookup
  (call_meets F.slot_int_rmul (typeIs_int s k t) F.entry_int_rmul (F.args_int_rmul_2 _ _) (int___rmul___int_list k t l its.toArray n)
   ⟨e,rfl,⟨_,e,rfl⟩,call_meets F.slot_list_mul ⟨_,e,rfl⟩ F.entry_list_mul (F.args_list_mul_2 _ _) (AutoListH.list___mul___list_int_3 l its.toArray n k t hfit hcap hlong) ⟨e,?_⟩⟩)
 rw[v9];exact⟨.ref _,_,I.lnew (t':=s.toks) (r.rep k.toNat) (by rw[uE,Nat.mul_comm];exact hz),rfl,q _ I.fresh⟩
end
section
variable {prog:Program}{w:World}{A:Around}{E:Value->Shared->Prop}{s:Shared}
set_option maxRecDepth 100000 in
end
end L2
namespace Att
open PySem PySem.W PySem.Calls PyProof.Rows
end Att
namespace L2
open PySem PySem.Spec PyProof.Rows
theorem jM:∀{vs:List Value} {ns:List Int},IntsAre vs ns->Vals (ns.map V.int) vs
 |_,_, .nil => .nil
 |_,_, .cons n t h => .cons ⟨t,rfl⟩ (jM h)
def Only (H:Hp):Prop:=∀b,H b=none ∨ ∃o xs,H b=some (.frz o (.lst xs))
def law_call {P:Program}{w:World}{K:Frag}{mg mb:Str->Option Value}{CX:CXT}{k:Nat}{fa a:Addr}{fd:FuncData}{x:Str}{sp:Sp}{s₁:Shared}{vs:List Value}{ns:List Int}
  (KX:K.In s₁.heap)(hns:s₁.heap.Ns mainGlobals mg)(hb:s₁.heap.Ns builtinsNs mb)(hbb:∀x:Str,x≠"__name__"->mb x=bootBuiltins x)(hlim:s₁.heap.NoLimit)(hg:s₁.gens = #[])(htk:0 < s₁.toks)
  (ha:s₁.heap.get? a=some { cls := .type "list",data := .seq vs.toArray }) (hi:IntsAre vs ns) (hl:ns.length<=sizeLine) (hr:Room k callerA)
  (F:∀base:Heap,K.In base->base.Ns mainGlobals mg->FnOk P w K mg base CX k fa fd [x] sp) (hbind:∀(s:Shared) (u:Value),BindsTo s fd ⟨[u],[]⟩ [(x,u)])
  (hsp:∀H:Hp,Only H->SqL K H a (ns.map V.int)->sp [.ref a] H (λv _=>v = .bl true) λ_ _ _=>False)
  (hCX:∀H e s',CX [] H s₁ (λ_ _ _=>False) e s'->False):
  codeAny (model P w) callerA (.call (.ref fa) ⟨[.ref a],[]⟩) (λr s'=>r = .ok (.ret (.bool true))/\OldK s₁.heap s'.heap/\s'.os=s₁.os/\AllBare s'.gens) s₁:=by
 have rv:=jM hi;have lenV:=hi.length;have core:∀H:Hp,Only H->SqL K H a (ns.map V.int)->HOk P w H s₁.heap->(∀b,H b≠none->b=a)->(H a≠none->K.lookup a=none) →
   codeAny (model P w) callerA (.call (.ref fa) ⟨[.ref a],[]⟩) (λr s'=>r = .ok (.ret (.bool true))/\OldK s₁.heap s'.heap/\s'.os=s₁.os/\AllBare s'.gens) s₁:=by
  intro H hO hS hok hA hK;have base_of:∀{b:Addr} {o:Obj},s₁.heap.get? b=some o->H b=none->(hidT s₁.heap H).get? b=some o:=λe n=>rc e n;have noA:∀{b:Addr} {o:Obj} {es:Array DictEntry} {ep:Nat},s₁.heap.get? b=some o->o.data = .dict es ep->H b=none:=λ{b o es ep} e d=>by
   cases q:H b with
   |none=>rfl
   |some u=>
    have e':b=a:=hA b (by rw[q];simp);subst e';rw[ha] at e;cases e;have d':Data.seq vs.toArray _=Data.dict es ep:=d;cases d'
  have nsK:∀{b:Addr} {m:Str->Option Value},s₁.heap.Ns b m->(hidT s₁.heap H).Ns b m:=λ{b m} ⟨o,es,ep,e,d,r⟩=>⟨o,es,ep,base_of e (noA e d),d,r⟩;have hKb : K.In (hidT s₁.heap H) := fun b o e => base_of (KX b o e) (by
   cases q:H b with
   |none=>rfl
   |some u=>
    have e':b=a:=hA b (by rw[q];simp);subst e';rw[hK (by rw[q];simp)] at e;cases e)
  have hM:Mod K mg (hidT s₁.heap H):=⟨hKb,nsK hns,⟨mb,nsK hb,hbb⟩,let ⟨mc,h1,h2⟩:=hlim;⟨mc,nsK h1,h2⟩⟩;have e0:Env0 P w K mg (hidT s₁.heap H) callerA [] s₁ H:=⟨rfl,hM,λb o e=>uf e,Nat.le_of_eq (om _ _),trivial,λb hb=>absurd (show b∈([]:List Addr) from hb) (by simp),hok, .of_eq hg,htk⟩;refine codeAny_mono ((F _ hKb (nsK hns)).run callerA [] s₁ H ⟨[.ref a],[]⟩ [.ref a] [.ref a] _ _ hr e0 (hbind s₁ (.ref a)) (.cons rfl .nil) (hsp H hO hS)) λr s' h=>?_;cases r with
  |error e=>exact(hCX H e s' h).elim
  |ok fl=>
   cases fl with
   |next=>exact False.elim h
   |brk=>exact False.elim h
   |cont=>exact False.elim h
   |ret u=>
    obtain⟨v,H',os,bare,un,hok',_,r',q⟩:=h;have q':v = .bl true:=q;subst q';obtain rfl:u=Value.bool true:=r';refine⟨rfl,OldK.of_keep λb o e=>?_,os,bare⟩;cases q:H b with
    |none=>exact un.keep b o e q (by intro z;exact absurd (show b∈([]:List Addr) from z) (by simp)) (by simp)
    |some u=>
     rcases hO b with z |⟨ob,xs,z⟩
     ·rw[q] at z;cases z
     ·have z2:=un.frzs b ob _ z;obtain⟨e1,_⟩:=hok b _ z;obtain⟨e2,_⟩:=hok' b _ z2;rw[e] at e1;cases e1;exact e2
 cases hk:K.lookup a with
 |some o=>
  have e:=KX a o hk;rw[ha] at e;cases e;refine core (λ_=>none) (λ_ => .inl rfl) (.inr ⟨_,vs.toArray,_,hk,rfl,rfl,rfl,by rw[l26,lenV];exact hl,by simpa using rv⟩) (λb u z=>by have z':(none:Option HO)=some u:=z;cases z') (λb z=>absurd rfl z) λz=>absurd rfl z
 |none=>
  refine core (λb=>if b=a then some (.frz { cls := .type "list",data := .seq vs.toArray } (.lst (ns.map V.int))) else none) (λb=>?_) (.inl (.inr ⟨{ cls := .type "list",data := .seq vs.toArray },if_pos rfl⟩)) (λb u z=>?_) (λb z=>?_) λ_=>hk
  ·by_cases hb:b=a
   ·exact .inr ⟨_,_,if_pos hb⟩
   ·exact .inl (if_neg hb)
  ·by_cases hb:b=a
   ·have z':=(if_pos hb).symm.trans z;cases z';subst hb;exact⟨ha,by rw[l0];exact hl,vs,_,rv,ha⟩
   ·have z':=(if_neg hb).symm.trans z;cases z'
  ·by_cases hb:b=a
   ·exact hb
   ·exact absurd (if_neg hb) z
abbrev KOf {K:Frag}{h:Heap}(_:K.In h):Frag:=K
def bI (s:Stmt):Arguments:=match s with
 | .FunctionDef _ a _ _ _ _ _ _ _ _=>a
 |_=>{ posonlyargs:=[],args:=[],vararg:=none,kwonlyargs:=[],kw_defaults:=[],kwarg:=none,defaults:=[] }
def br (s:Stmt):List Stmt:=match s with
 | .FunctionDef _ _ b _ _ _ _ _ _ _=>b
 |_=>[]
def ad (s:Stmt):Scope:=match s with
 | .FunctionDef _ _ _ _ _ _ sc _ _ _=>sc
 |_=>{ kind := .function,names:=[],isGenerator:=false,isCoroutine:=false }
abbrev CX0:CXT:=λ_ _ _ _ _ _=>False
abbrev E0:XK:=λ_ _ _=>False
def uF {X:Cx}:jB CX0 X E0:=λ_ _ _ _ _ _ _ h=>h.elim
structure Fun (K:Frag)(x qual:Str)(st:Stmt)(f:Addr)(fd:FuncData):Prop where
 ex:∃(oc:Value) (od:Option Addr) (kV doc pm:Value) (an:Option Addr) (cdv ct:Value) (osl:Array (Option Value)),
  fd=fnOf x qual (bI st) (br st) (ad st) .none kV doc pm an cdv ct/\K.lookup f=some ⟨oc,od, .func fd,osl⟩/\codeIn K cdv qual=true
 kp:keepIn K (.ref f)=true
section
variable {P:Program}{w:World}{K:Frag}{mg:Str->Option Value}{base:Heap}
def Fun.ok {x qual:Str}{st:Stmt}{f:Addr}{fd:FuncData}{N ps:List Str}{k:Nat}{sp:Sp}(F:Fun K x qual st f fd)(S:FnScope N ps (ad st))(len:∀vs H Q E,sp vs H Q E->vs.length=ps.length)
  (y0:∀(cdv:Value)(A:Around)(outer:List Env)(s:Shared)(H:Hp)(vs:List V)(Q:VK)(E:XK),Room k (A.deeper (envOfC qual (ad st) s.heap.objs.size f cdv))->sp vs H Q E →
   ∃t,PSs (cxOf CX0 P w K mg base N qual (ad st) f cdv A outer s H E).nox (br st) t/\t { nx:=λ_ H'=>Q .non H',rt:=Q } (start N vs) H):FnOk P w K mg base CX0 (k+1) f fd ps sp:=by
 obtain⟨oc,od,kV,doc,pm,an,cdv,ct,osl,rfl,lk,hcd⟩:=F.ex;refine xU lk hcd S len λA outer s H vs Q E hr hsp=>?_;obtain⟨t,h,q⟩:=y0 cdv A outer s H vs Q E hr hsp;exact⟨t,h.nox,q⟩
def Fun.oks {x qual:Str}{st:Stmt}{f:Addr}{fd:FuncData}{N ps:List Str}{k:Nat}{sp:Sp}(F:Fun K x qual st f fd)(S:FnScope N ps (ad st))
  (y0:∀{cdv:Value}{A:Around}{outer:List Env}{s:Shared}{vs:List V}{E:XK}(H:Hp)(Q:VK),Room k (A.deeper (envOfC qual (ad st) s.heap.objs.size f cdv))->sp vs H Q E →
   ∃t,PSs (cxOf CX0 P w K mg base N qual (ad st) f cdv A outer s H E).nox (br st) t/\t { nx:=λ_ H'=>Q .non H',rt:=Q } (start N vs) H) (len:∀vs H Q E,sp vs H Q E->vs.length=ps.length:=by intro vs H Q E h;first |(cases h;subst_vars;rfl) |(rcases h with ⟨_,⟨_,rfl,_⟩,_⟩;rfl) |(rcases h with ⟨_,_,⟨_,rfl,_⟩,_⟩;rfl) |(rcases h with ⟨_,_,_,⟨_,rfl,_⟩,_⟩;rfl) |(rcases h with ⟨_,_,_,_,⟨_,rfl,_⟩,_⟩;rfl) |(rcases h with ⟨_,_,_,_,_,⟨_,rfl,_⟩,_⟩;rfl) |(rcases h with ⟨_,_,_,_,_,_,⟨_,rfl,_⟩,_⟩;rfl) |(rcases h with ⟨_,_,_,_,_,_,_,⟨_,rfl,_⟩,_⟩;rfl)):FnOk P w K mg base CX0 (k+1) f fd ps sp:=F.ok S len λ_ _ _ _ H _ Q _=>y0 H Q
def Fun.binds {x qual:Str}{st:Stmt}{f:Addr}{fd:FuncData}{ps:List Str}(F:Fun K x qual st f fd)
  (h:∀(kV doc pm:Value)(an:Option Addr)(cdv ct:Value)(us:List Value),us.length=ps.length->bindArgs (fnOf x qual (bI st) (br st) (ad st) .none kV doc pm an cdv ct) ⟨us,[]⟩=pure (ps.zip us)):Binds K fd ps []:=by
 obtain⟨oc,od,kV,doc,pm,an,cdv,ct,osl,rfl,lk,hcd⟩:=F.ex;exact .all (h kV doc pm an cdv ct)
def ml {x qual:Str}{st:Stmt}{f:Addr}{oc:Value}{od an:Option Addr}{osl:Array (Option Value)}{kV doc pm cdv ct:Value}(l:K.lookup f=some ⟨oc,od, .func (fnOf x qual (bI st) (br st) (ad st) .none kV doc pm an cdv ct),osl⟩)
  (c:codeIn K cdv qual=true)(k:keepIn K (.ref f)=true):Fun K x qual st f (fnOf x qual (bI st) (br st) (ad st) .none kV doc pm an cdv ct):=⟨⟨oc,od,kV,doc,pm,an,cdv,ct,osl,rfl,l,c⟩,k⟩
end
section
variable {X:Cx}
def pv (i:Nat){x:Str}{pos:Pos}(hN:X.N[i]? = some x:=by rfl) (hv:Vis X.env.scope x:=by first |exact Or.inl rfl |exact Or.inr (Or.inl rfl) |exact Or.inr (Or.inr rfl)) (hd:(x==("__debug__":Str))=false:=by decide)
  (hcd:(x==("__classdict__":Str))=false:=by decide):PE X (.Name x pos) (tVar i):=vR hN hv hd hcd
end
def iteF {A B:Prop}(h:B):if false=true then A else B:=by
 rw[if_neg Bool.false_ne_true];exact h
def iteT {A B:Prop}(h:A):if true=true then A else B:=by
 rw[if_pos rfl];exact h
def ite2 {c A B:Prop} [Decidable c](h1:c->A)(h2:¬ c->B):if c then A else B:=by
 by_cases h:c
 ·rw[if_pos h];exact h1 h
 ·rw[if_neg h];exact h2 h
def Same (H H':Hp):Prop:=∀b o,H b=some o->H' b=some o
def Same.refl (H:Hp):Same H H:=λ_ _ h=>h
def Same.trans {H H1 H2:Hp}(a:Same H H1)(b:Same H1 H2):Same H H2:=λc o h=>b c o (a c o h)
def Same.free {H H':Hp}(e:Same H H'){l:Addr}(h:H' l=Option.none):H l=Option.none:=by
 cases q:H l with
 |none=>rfl
 |some o=>
  rw[e l o q] at h;cases h
def Same.seq {K:Frag}{H H':Hp}{a:Addr}{xs:List V}(e:Same H H')(h:SqL K H a xs):SqL K H' a xs:=by
 rcases h with (h |⟨o,h⟩) |h
 ·exact .inl (.inl (e _ _ h))
 ·exact .inl (.inr ⟨o,e _ _ h⟩)
 ·exact .inr h
def CellsIn (env:Env):List (Str×Addr)->Prop
 | []=>True
 |p::r=>env.cells.lookup p.1=some p.2/\CellsIn env r
theorem CellsIn.look {env:Env}:∀{cl:List (Str×Addr)},CellsIn env cl->∀x c,cl.lookup x=some c->env.cells.lookup x=some c
 | [],_,x,c,e=>by simp at e
 |p::r,h,x,c,e=>by
  obtain⟨n,a⟩:=p;rw[List.lookup_cons] at e;cases q:x==n with
  |true=>
   rw[q] at e;have q':x=n:=eq_of_beq q;subst q';cases e;exact h.1
  |false=>
   rw[q] at e;exact h.2.look x c e
abbrev aK (X:Cx)(scope:Scope)(cl:List (Str×Addr))(C:Addr)(N':List Str)(fp:List Addr)(s:Shared)(H:Hp):Cx:=
 { X with N:=N',s₀:=s,H₀:=H,env:=compEnvC scope cl C X.env,outer:=X.stack,ex:=fp,fn:=λ_=>false,pn:=[],xe:=λ_ _=>False }
def nfS (k:Nat)(fr:List Nat)(σ:St):St:=List.replicate k none++fr.map λj=>(σ[j]?).join
structure CompN (X:Cx)(scope:Scope)(cl:List (Str×Addr))(own:List Str)(fr:List Nat)(N':List Str):Prop where
 kind:scope.kind = .function
 cells:CellsIn X.env cl
 has:∀x,((relabel scope X.env).names.lookup x=some .cell ∨ (relabel scope X.env).names.lookup x=some .free)->∃c,cl.lookup x=some c
 nd:N'.Nodup
 len:N'.length=own.length+fr.length
 free:∀(i:Nat) (j:Nat),fr[i]? = some j->∃x,X.N[j]? = some x/\N'[own.length+i]? = some x/\(X.env.kindOf x=some .cell ∨ X.env.kindOf x=some .free) ∧
  ((relabel scope X.env).names.lookup x=some .cell ∨ (relabel scope X.env).names.lookup x=some .free)
section
variable {X:Cx}{w9:List (Addr×Obj)}{σ:St}{H:Hp}{s s4:Shared}{scope:Scope}{cl:List (Str×Addr)}{own:List Str}{fr:List Nat}{N':List Str}{fp:List Addr}{C:Addr}{H4:Hp}
def oN (I:Inv X w9 σ H s)(Z:CompN X scope cl own fr N')(hC:s.heap.objs.size<=C)(hf:∀b∈fp,FpOk X w9 H b)(ho:∀b∈fp,∃o,s.heap.get? b=some o/\∀v,o.data ≠ .cell v):(aK X scope cl C N' fp s H).Ok where
 mod:=I.ok.mod
 kind:=Z.kind
 glob:=I.ok.glob
 blt:=I.ok.blt
 above:=hC
 inj:=λx y c h1 h2=>I.ok.inj x y c (Z.cells.look x c h1) (Z.cells.look y c h2)
 has:=λx h=>Z.has x h
 cab:=λx c h _=>Bool.noConfusion h
 hd:=I.ok.hd
 frames:=I.ok.frames
 stk := .inl rfl
 exf:=λb hb=>by
  obtain⟨o,e,_⟩:=ho b hb;refine⟨l31 (l29 (Heap.lt_size e) hC),λx c h=>?_⟩;exact(hf b hb).2.2.2.2.1 x c (Z.cells.look x c h)
 bs:=I.bs
 bsz:=l11 I.ok.bsz I.sz
 noex:=λb o e hb=>by
  rcases (hf b hb).2.2.2.1 with z |z
  ·exact I.ok.noex b o e z
  ·exact absurd (l29 (Heap.lt_size e) (l11 I.ok.bsz z)) (l46 _)
 exfs:=λb hb z=>by
  rcases l9.mp (I.stkSub b z) with e |e
  ·exact(hf b hb).2.1 e
  ·exact(hf b hb).2.2.1 e
 funs:=I.stack
 frf:=I.stkFree
def rE (I:Inv X w9 σ H s)(Z:CompN X scope cl own fr N')(hC:s.heap.objs.size<=C)(hf:∀b∈fp,FpOk X w9 H b)(ho:∀b∈fp,∃o,s.heap.get? b=some o/\∀v,o.data ≠ .cell v)
  (os:s4.os=s.os)(bare:AllBare s4.gens)(un:Un (frs X.stack) fp H H4 s.heap s4.heap)(ns:∃m,s4.heap.Ns C m)(kc:∀x c v,X.env.cells.lookup x=some c->s.heap.IsCell c v->s4.heap.IsCell c v)
  (fr4:H4 C=none)(hok:HOk X.prog X.w H4 s4.heap)(tk:0 < s4.toks):Inv (aK X scope cl C N' fp s H) [] (nfS own.length fr σ) H4 s4 where
 ok:=oN I Z hC hf ho
 os:=os
 bare:=bare
 base:=un
 loc:=by
  obtain⟨m,hm⟩:=ns;refine⟨m,hm,λi x v h1 h2 h3=>?_⟩;unfold nfS at h2;by_cases hi:i < own.length
  ·rw[List.getElem?_append_left (by simpa using hi),List.getElem?_replicate,if_pos hi] at h2;cases h2
  ·rw[List.getElem?_append_right (by simpa using hi),l32,List.getElem?_map] at h2;cases q:fr[i - own.length]? with
   |none=>rw[q] at h2;cases h2
   |some j=>
    rw[q] at h2;have h2':(σ[j]?).join=some v:=Option.some.inj h2;obtain⟨y,e1,e2,e3,e4⟩:=Z.free _ j q;have ei:own.length+(i - own.length)=i:=by omega
    rw[ei] at e2;have h1':N'[i]? = some x:=h1;rw[e2] at h1';cases h1';have hs:σ[j]? = some (some v):=by
     cases r:σ[j]? with
     |none=>rw[r] at h2';cases h2'
     |some w=>rw[r] at h2';cases w with
      |none=>cases h2'
      |some w=>cases h2';rfl
    obtain⟨m0,_,hl⟩:=I.loc;have vis:Vis X.env.scope x:=e3.elim (λz => .inr (.inl z)) λz => .inr (.inr z);obtain⟨u,ru,lk⟩:=hl j x v e1 hs vis;refine⟨u,ru,?_⟩;rcases lk with ⟨k,_⟩ |⟨_,c,ec,hc⟩
    ·rcases e3 with z |z <;> (rw[k] at z;cases z)
    ·obtain⟨c',ec'⟩:=Z.has x e4;have:=Z.cells.look x c' ec';rw[ec] at this;cases this;exact .inr ⟨e4,c,ec',kc x c _ ec hc⟩
 cell:=λx c e=>by
  have e':=Z.cells.look x c e;obtain⟨v,hv⟩:=I.cell x c e';exact⟨v,kc x c v e' hv⟩
 free:=fr4
 freeC:=λx c e=>by
  have e':=Z.cells.look x c e;obtain⟨v,o,hv,_⟩:=I.cell x c e';refine un.free c o hv (I.freeC x c e') λhb=>?_;exact(hf c hb).2.2.2.2.1 x c e' rfl
 pin:=λp hp=>absurd (show p∈([]:List (Addr×Obj)) from hp) (by simp)
 hok:=hok
 len:=by
  show (nfS own.length fr σ).length=N'.length;unfold nfS;rw[l6,l32,l0,Z.len]
 tk:=tk
def rF {σ':St}(I:Inv X w9 σ H s)(hf:∀b∈fp,FpOk X w9 H b){pins':List (Addr×Obj)}(J:Inv (aK X scope cl C N' fp s H) pins' σ' H4 s4):Inv X w9 σ H4 s4:=
 I.call' J.os J.base J.hok J.bare (λb hb=>⟨(hf b hb).2.2.2.1,(hf b hb).2.1,(hf b hb).2.2.2.2.1,(hf b hb).2.2.2.2.2⟩) J.tk
def jN {C:Addr}{h':Heap}(I0:Inv X w9 σ H s)(hC:s.heap.objs.size<=C){σ':St}(I:Inv X w9 σ' H4 s4)(fr4:H4 C=none)(hs:Heap.SameBut C s4.heap h'):Inv X w9 σ' H4 { s4 with heap:=h' }:=by
 refine I.turned (t':=s4.toks) (it:=C) (λb o hb e=>(hs.2 b hb).trans e) fr4 ?_ (.inr (l11 I0.sz hC)) ?_ ?_
 ·exact Nat.ne_of_gt (l29 I0.lt hC)
 ·intro x c e z;obtain⟨v,q⟩:=I0.cell x c e;exact absurd (l29 q.lt (by rw[z];exact hC)) (l46 _)
 ·intro p hp z;exact absurd (l29 (Heap.lt_size (I0.pin p hp).1) (by rw[z];exact hC)) (l46 _)
end
def PTs (X:Cx)(ifs:List Expr)(t:TT):Prop:=
 ∀(w9:List (Addr×Obj)) (s:Shared) (σ:St) (H:Hp) (Q:Bool->Hp->Prop),Inv X w9 σ H s->t σ H Q →
  wpAny (model X.prog X.w) X.A (forIn ifs true λc r=>if r=true then do let ok ← isTrue c X.env (eval c X.env);pure (ForInStep.yield ok) else pure (ForInStep.yield r)) (TP X w9 σ Q) X.xe s
def tYes:TT:=λ_ H Q=>Q true H
def uG {X:Cx}:PTs X [] tYes:=λ_ _ _ H _ I h=>wpAny_tests_nil ⟨H,I,h⟩
def uH {X:Cx}{c:Expr}{t:TT}(h:PT X c t):PTs X [c] t:=λw9 s σ H Q I q=>wpAny_tests_one (h w9 s σ H Q I q)
section
variable {prog:Program}{w:World}{A:Around}{R:Result->Shared->Prop}{s:Shared}
theorem jO {elt target iter:Expr}{ifs:List Expr}{scope:Scope}{pos:Pos}{it acc:Value}{env:Env}(I:Nat->Shared->Prop)
  (turn : ∀ n s, I n s -> wpAny (model prog w) A (pyNext it) (λr s₁=>match r with
   |none=>R (.ok .next) s₁
   | some v => wpAny (model prog w) A (letOwnedTupleGo target it v) (fun _ s₂ => wpAny (model prog w) A (assign target env v) (λ_ s₂=>
     wpAny (model prog w) A (forIn ifs true fun c r => if r = true then do let ok ← isTrue c env (eval c env); pure (ForInStep.yield ok) else pure (ForInStep.yield r)) (λok s₃=>
      if ok = true then wpAny (model prog w) A (eval elt env) (λx s₄=>
       wpAny (model prog w) A (call (.builtin "list.append") [acc,x]) (λ_ s₅=>∃m,m < n/\I m s₅) (λ_ _=>False) s₄) (λ_ _=>False) s₃
      else ∃m,m < n/\I m s₃) (λ_ _=>False) s₂) (λ_ _=>False) s₂) (λ_ _=>False) s₁) (λ_ _=>False) s)
  (n:Nat)(h:I n s):
  codeAny (model prog w) A (.compLoop (.ListComp elt [⟨target,iter,ifs,0⟩] scope pos) 0 it acc env) R s:=by
 have no:∀{E:Value->Shared->Prop} (e:Value) (s':Shared),(λ_ _=>False:Value->Shared->Prop) e s'->E e s':=λ_ _ z=>False.elim z;refine codeAny_loop rfl I (λn s hI=>?_) n h;show wpAny _ A ((compTurn (.ListComp elt [⟨target,iter,ifs,0⟩] scope pos) 0 it acc env).onRaise (λx=>do noteFrame x env;theTreesLotGoes x)) _ _ s;refine wpAny_noted ?_;rw[compTurn_list];refine wpAny_bind (wpAny_standAt (wpAny_bind (wpAny_mono (turn n s hI) (λr s₁ h₁=>?_) no)));cases r with
 |none=>exact wpAny_pure h₁
 |some v=>
  refine wpAny_bind (wpAny_mono h₁ (λ_ s₂ h₂=>?_) no);refine wpAny_bind (wpAny_mono h₂ (λ_ s₂ h₂=>wpAny_bind (wpAny_mono h₂ (λok s₃ h₃=>?_) no)) no);cases ok with
  |false=>exact wpAny_pure ⟨rfl,h₃⟩
  |true=>
   exact wpAny_bind (wpAny_bind (wpAny_mono h₃ (λx s₄ h₄=>wpAny_bind (wpAny_mono h₄ (λ_ s₅ h₅=>wpAny_pure (wpAny_pure ⟨rfl,h₅⟩)) no)) no))
end
def nfLe (k:Nat)(fr:List Nat)(σ σ2:St):Prop:=σ2.length=(nfS k fr σ).length/\∀(i:Nat) (v:V),(nfS k fr σ)[i]? = some (some v)->σ2[i]? = some (some v)
def nfLe.refl (k:Nat)(fr:List Nat)(σ:St):nfLe k fr σ (nfS k fr σ):=⟨rfl,λ_ _ h=>h⟩
def nfLe.set {k:Nat}{fr:List Nat}{σ σ2:St}{i:Nat}(h:nfLe k fr σ σ2)(hi:i < k)(x:Option V):nfLe k fr σ (σ2.set i x):=by
 refine⟨by rw[l78];exact h.1,λj v e=>?_⟩;by_cases hj:i=j
 ·subst hj;unfold nfS at e;rw[List.getElem?_append_left (by simpa using hi),List.getElem?_replicate,if_pos hi] at e;cases e
 ·rw[List.getElem?_set_ne hj];exact h.2 j v e
def rLC (k:Nat)(fr:List Nat)(g:TG)(tt:TT)(te:TE)(σ:St)(J:It)(H1:Hp)(Q:Addr->Hp->Prop):Prop:=
 ∀D,H1 D=none->∃W:Nat->Nat->List V->Hp->Prop,(∃m,W 0 m [] (upd H1 D (.lst [])))/\∀i m acc H,W i m acc H->H D=some (.lst acc) ∧
  ((J.stop i H /\ Q D H) ∨ (J.go i H/\∀x H',J.yld i H x H'->g x (nfS k fr σ) H' λσ2 H2=>nfLe k fr σ σ2/\tt σ2 H2 λb H3=>
   if b=true then te σ2 H3 λy H4=>H4 D=some (.lst acc)/\acc.length < sizeLine/\∃m',m' < m/\W (i+1) m' (acc++[y]) (upd H4 D (.lst (acc++[y])))
   else ∃m',m' < m/\W (i+1) m' acc H3))
def tLC (wi:TI)(k:Nat)(fr:List Nat)(g:TG)(tt:TT)(te:TE):TE:=λσ H Q=>wi σ H λJ H1=>rLC k fr g tt te σ J H1 λD H'=>Q (.ref D) H'
section
variable {X:Cx}{scope:Scope}{cl:List (Str×Addr)}{own:List Str}{fr:List Nat}{N':List Str}{tg iter elt:Expr}{ifs:List Expr}{wi:TI}{g:TG}{tt:TT}{te:TE}{pos:Pos}
structure TurnP (Cm:Cx->Prop)(P:Program)(w:World)(K:Frag)(tg:Expr)(J:It)(fp:List Addr)(it:Addr)(tn:Nat->Heap->Prop):Prop where
 obj:∀i h,tn i h->∀b∈fp,∃o,h.get? b=some o/\∀v,o.data ≠ .cell v
 keep:∀i h h',tn i h->(∀b∈fp,∀o,h.get? b=some o->h'.get? b=some o)->tn i h'
 item:∀(X:Cx),X.prog=P->X.w=w->X.K=K->Cm X->∀(i:Nat) (w9:List (Addr×Obj)) (s:Shared) (σ:St) (H:Hp) (E:Value->Shared->Prop),Inv X w9 σ H s->(∀b∈fp,FpOk X w9 H b)->tn i s.heap->J.go i H →
  wpAny (model P w) X.A (pyNext (.ref it)) (λr s1=>∃u,r=some u ∧
   wpAny (model P w) X.A (letOwnedTupleGo tg (.ref it) u) (λ_ s2=>∃x H',Inv X w9 σ H' s2/\RelV x u/\J.yld i H x H'/\tn (i+1) s2.heap/\∀b∈fp,H' b=none) E s1) E s
 done:∀(X:Cx),X.prog=P->X.w=w->X.K=K->Cm X->∀(i:Nat) (w9:List (Addr×Obj)) (s:Shared) (σ:St) (H:Hp) (E:Value->Shared->Prop),Inv X w9 σ H s->(∀b∈fp,FpOk X w9 H b)->tn i s.heap->J.stop i H →
  wpAny (model P w) X.A (pyNext (.ref it)) (λr s1=>r=none/\Inv X w9 σ H s1) E s
 self:∀(A:Around) (i:Nat) (s:Shared) (Q:Value->Shared->Prop) (E:Value->Shared->Prop),tn i s.heap->Q (.ref it) s->wpAny (model P w) A (pyIter (.ref it)) Q E s
def Turn.toP {P:Program}{w:World}{K:Frag}{tg:Expr}{J:It}{fp:List Addr}{it:Addr}{tn:Nat->Heap->Prop}(T:Turn P w K tg J fp it tn):TurnP (λX=>X.calm=true) P w K tg J fp it tn:=⟨T.obj,T.keep,T.item,T.done,T.self⟩
def hU {w9:List (Addr×Obj)}{σ:St}{H:Hp}{s:Shared}{it:Addr}{fp:List Addr}{tn:Nat->Heap->Prop}{J:It}{Q:Addr->Hp->Prop}{RR:Value->Addr->Result->Shared->Prop}{E:Value->Shared->Prop}
  {Cm:Cx->Prop}(hc:∀C,Cm (aK X scope cl C N' fp s H))(Z:CompN X scope cl own fr N')(w5:∀y∈scope.names,y.2 ≠ .cell)
  (hg:∀C,PG (aK X scope cl C N' fp s H) tg g)(ht:∀C,PTs (aK X scope cl C N' fp s H) ifs tt)(he:∀C,PE (aK X scope cl C N' fp s H) elt te)
  (I:Inv X w9 σ H s)(T:TurnP Cm X.prog X.w X.K tg J fp it tn)(st:tn 0 s.heap)(hf:∀b∈fp,FpOk X w9 H b)(q:rLC own.length fr g tt te σ J H Q)
  (hRR:∀D C s' H' ,s.heap.objs.size<=C->(∃m,s'.heap.Ns C m)->H' C=none->Inv X w9 σ H' s'->Q D H'->RR (.ref D) C (.ok .next) s'):
  wpAny (model X.prog X.w) X.A (newList []) (fun acc s₃ => wpAny (model X.prog X.w) X.A (newFunctionEnv scope X.env.globals cl [] X.env.qual none .none (some X.env)) (λcenv s₄=>
   codeAny (model X.prog X.w) X.A (.compStart (.ListComp elt [⟨tg,iter,ifs,0⟩] scope pos) 0 (.ref it) acc { cenv with scope:=relabel scope X.env }) (RR acc cenv.locals) s₄) E s₃) E s:=by
 refine wpAny_newObj_type (wpAny_newFunctionEnv w5 (by intro y hy;simp at hy) (λh₁ hns₁ hsb₁=>?_) Z.kind);dsimp only at hns₁ hsb₁ ⊢;generalize hH2:s.heap.push { cls := .type "list",dict:=none,data := .seq ([]:List Value).toArray }=H2 at hns₁ hsb₁ ⊢;have hC:H2.objs.size=s.heap.objs.size+1:=by rw[<- hH2,Heap.size_push]
 have hCle:s.heap.objs.size<=H2.objs.size:=by rw[hC];exact Nat.le_succ _
 have hDC:s.heap.objs.size≠H2.objs.size:=by rw[hC];exact l31 (l66 _)
 have old:∀b o,s.heap.get? b=some o->h₁.get? b=some o:=λb o e=>
  hsb₁.extBut b o (l31 (l29 (Heap.lt_size e) hCle)) (Heap.get?_push_of_some _ (hH2▸Heap.get?_push_of_some _ e))
 have hD:h₁.get? s.heap.objs.size=some { cls := .type "list",dict:=none,data := .seq ([]:List Value).toArray }:=
  hsb₁.extBut _ _ hDC (Heap.get?_push_of_some _ (hH2▸Heap.get?_push_size _ rfl))
 have ho:=T.obj _ _ st;have frD:H s.heap.objs.size=none:=I.hok.fresh (l5 _);have frC:H H2.objs.size=none:=I.hok.fresh hCle;obtain⟨W,⟨m0,w0⟩,turn⟩:=q s.heap.objs.size frD;have hok1:HOk X.prog X.w (upd H s.heap.objs.size (.lst [])) h₁:=I.hok.laid old (l5 _) ⟨l10 _,[],0, .nil,hD⟩;have un1:Un (frs X.stack) fp H (upd H s.heap.objs.size (.lst [])) s.heap h₁:=Un.laid old (l5 _) frD;have C1:upd H s.heap.objs.size (.lst []) H2.objs.size=none:=by rw[ag (Ne.symm hDC)];exact frC
 have fpD:∀b∈fp,b≠s.heap.objs.size:=λb hb z=>by
  obtain⟨o,e,_⟩:=ho b hb;exact absurd (Heap.lt_size e) (by rw[z];exact l46 _)
 have J0:∀t,0 < t->Inv (aK X scope cl H2.objs.size N' fp s H) [] (nfS own.length fr σ) (upd H s.heap.objs.size (.lst [])) { s with heap:=h₁,toks:=t }:=λt ht=>
  rE I Z hCle hf ho rfl I.bare un1 ⟨_,hns₁⟩ (λx c v e ⟨o,e1,e2⟩=>⟨o,old c o e1,e2⟩) C1 hok1 ht
 have st1:tn 0 h₁:=T.keep _ _ _ st λb _ o e=>old b o e;have loop:∀s₃:Shared,s₃={ s with heap:=h₁,toks:=s.toks+([]:List (Str×Value)).length } →
   codeAny (model X.prog X.w) X.A (.compLoop (.ListComp elt [⟨tg,iter,ifs,0⟩] scope pos) 0 (.ref it) (.ref s.heap.objs.size) (compEnvC scope cl H2.objs.size X.env)) (RR (.ref s.heap.objs.size) H2.objs.size) s₃:=by
  rintro s₃ rfl;generalize hX:aK X scope cl H2.objs.size N' fp s H=X' at J0;have hg':PG X' tg g:=by rw[<- hX];exact hg _
  have ht':PTs X' ifs tt:=by rw[<- hX];exact ht _
  have he':PE X' elt te:=by rw[<- hX];exact he _
  have eP:X'.prog=X.prog:=by rw[<- hX]
  have eW:X'.w=X.w:=by rw[<- hX]
  have eK:X'.K=X.K:=by rw[<- hX]
  have eA:X'.A=X.A:=by rw[<- hX]
  have eE:X'.env=compEnvC scope cl H2.objs.size X.env:=by rw[<- hX]
  have eX:X'.xe=λ_ _=>False:=by rw[<- hX]
  have eC:Cm X':=by rw[<- hX];exact hc _
  have fpX:∀{H':Hp},(∀b∈fp,H' b=none)->∀b∈fp,FpOk X' [] H' b:=λhn b hb=>by
   rw[<- hX];have ok:=oN I Z hCle hf ho;refine⟨hn b hb,(ok.exf b hb).1,ok.exfs b hb, .inl hb,(ok.exf b hb).2,λp hp=>absurd (show p∈([]:List (Addr×Obj)) from hp) (by simp)⟩
  refine jO (λn s'=>∃i acc H',Inv X' [] (nfS own.length fr σ) H' s'/\tn i s'.heap/\(∀b∈fp,H' b=none)/\W i n acc H') ?_ m0 ⟨0,[],_,J0 _ (by have:=I.tk;omega),st1,λb hb=>by rw[ag (fpD b hb)];exact(hf b hb).1,w0⟩;rintro n s3 ⟨i,acc,H3,I3,st3,fr3,w3⟩;obtain⟨hDa,turn3⟩:=turn i n acc H3 w3;rcases turn3 with ⟨stop,qn⟩ |⟨go,step⟩
  ·have:=T.done X' eP eW eK eC i [] s3 _ H3 (λ_ _=>False) I3 (fpX fr3) st3 stop;rw[eA] at this;refine thn this λr s4 ⟨hr,I4⟩=>?_;subst hr;show RR _ _ _ _;have I4':Inv (aK X scope cl H2.objs.size N' fp s H) [] (nfS own.length fr σ) H3 s4:=by rw[hX];exact I4
   obtain⟨m,hm,_⟩:=I4'.loc;exact hRR _ _ s4 H3 hCle ⟨m,hm⟩ I4'.free (rF I hf I4') qn
  ·have:=T.item X' eP eW eK eC i [] s3 _ H3 (λ_ _=>False) I3 (fpX fr3) st3 go;rw[eA] at this;refine thn this λr s4 ⟨u,hr,h4⟩=>?_;subst hr;show wpAny _ _ (letOwnedTupleGo tg (.ref it) u) _ _ s4;refine thn h4 λ_ s5 ⟨x,H5,I5,r5,y5,st5,fr5⟩=>?_;have I5':=I5.pinned (fpX fr5) (T.obj _ _ st5);have back:∀{σ7:St} {H7:Hp} {s7:Shared},Inv X' ([]++hE fp s5.heap) σ7 H7 s7->tn (i+1) s7.heap/\∀b∈fp,H7 b=none:=λ{σ7 H7 s7} I7=>by
    refine⟨T.keep _ _ _ st5 λb hb o e=>(I7.pin (b,o) (l34 _ (l34 _ (c0 hb e)))).1,λb hb=>?_⟩;obtain⟨o,e,d⟩:=T.obj _ _ st5 b hb;exact(I7.pin (b,o) (l34 _ (l34 _ (c0 hb e)))).2.1
   have g5:=hg' _ s5 _ H5 x u _ I5' r5 (step x H5 y5);rw[eP,eW,eA,eE,eX] at g5;refine thn g5 λ_ s6 ⟨σ6,H6,I6,nf6,q6⟩=>?_;have t6:=ht' _ s6 σ6 H6 _ I6 q6;rw[eP,eW,eA,eE,eX] at t6;refine thn t6 λok s7 ⟨H7,I7,q7⟩=>?_;have again:∀{H8:Hp} {s8:Shared} {acc8:List V},Inv X' ([]++hE fp s5.heap) σ6 H8 s8->(∃m',m' < n/\W (i+1) m' acc8 H8) →
     ∃m,m < n/\∃i acc H',Inv X' [] (nfS own.length fr σ) H' s8/\tn i s8.heap/\(∀b∈fp,H' b=none)/\W i m acc H':=λ{H8 s8 acc8} I8 ⟨m',hm,w8⟩=>
    ⟨m',hm,i+1,acc8,H8,I8.unpinned.weak nf6.1.symm nf6.2,(back I8).1,(back I8).2,w8⟩
   cases ok with
   |false=>
    have q7':∃m',m' < n/\W (i+1) m' acc H7:=by rw[if_neg Bool.false_ne_true] at q7;exact q7
    show if false=true then _ else _
    rw[if_neg Bool.false_ne_true];exact again I7 q7'
   |true=>
    rw[if_pos rfl] at q7;show if true=true then _ else _
    rw[if_pos rfl];have e7:=he' _ s7 σ6 H7 _ I7 q7;rw[eP,eW,eA,eE,eX] at e7;refine thn e7 λyv s8 ⟨y,H8,I8,r8,hD8,hz8,m',hm,w8⟩=>?_;have a8:=jK _ s8 σ6 H8 (.ref s.heap.objs.size) [y] (.ref s.heap.objs.size) [yv] (λ_ H9=>H9=upd H8 s.heap.objs.size (.lst (acc++[y]))) I8 rfl (.cons r8 .nil) ⟨_,acc,y,rfl,rfl,hD8,hz8,rfl⟩;rw[eP,eW,eA,eX] at a8;refine thn a8 λ_ s9 ⟨_,H9,I9,_,e9⟩=>?_;subst e9;exact again I9 ⟨m',hm,w8⟩
 exact codeAny_compStart_list (loop _ rfl) (T.self _ 0 _ _ _ st1 (loop _ rfl))
def xX (hc:X.calm=true)(Z:CompN X scope cl own fr N')(w5:∀y∈scope.names,y.2 ≠ .cell)(y4:∀x∈scope.names,x.2 = .local->scope.names.lookup x.1=some .local)(v6:closureFor scope X.env=pure cl)
  (hi:PI X tg iter wi)(hg:∀C fp s H,PG (aK X scope cl C N' fp s H) tg g)(ht:∀C fp s H,PTs (aK X scope cl C N' fp s H) ifs tt)(he:∀C fp s H,PE (aK X scope cl C N' fp s H) elt te)
  (hs:∀x,foldedSetIterable iter X.env x=pure x:=by intro _;rfl):PE X (.ListComp elt [⟨tg,iter,ifs,0⟩] scope pos) (tLC wi own.length fr g tt te):=by
 intro w9 s σ H Q I h;rw[eval_ListComp];refine wpAny_comprehension_free (use:=none) rfl hs v6 Z.kind y4 (thn (hi w9 s σ H _ I h) λv s1 h1=>thn h1 λitv s2 h2=>?_);obtain⟨it,fp,tn,J,H2,e,I2,T,st2,f2,q2⟩:=h2;subst e;refine hU (Cm:=λX=>X.calm=true) (λ_=>hc) Z w5 (λC=>hg C _ _ _) (λC=>ht C _ _ _) (λC=>he C _ _ _) I2 T.toP st2 f2 q2 (RR:=λacc C=>compPost (model X.prog X.w) X.A X.xe none (EP X w9 σ Q) acc C) λD C s' H' hC ⟨m,hm⟩ fC I' q'=>?_;exact⟨m,hm,λh' hs'=>⟨.ref D,H',jN I2 hC I' fC hs',rfl,q'⟩⟩
def oO (i:Nat)(wi:TI)(k:Nat)(fr:List Nat)(g:TG)(tt:TT)(te:TE):TS:=λD σ H=>wi σ H λJ H1=>rLC k fr g tt te σ J H1 λa H'=>D.nx (σ.set i (some (.ref a))) H'
def rG {i:Nat}{x:Str}{pos' spos:Pos}(hN:X.N.Nodup)(hix:X.N[i]? = some x)(hx:X.env.scope.names.lookup x=some .local)(hc:X.calm=true)(Z:CompN X scope cl own fr N')(w5:∀y∈scope.names,y.2 ≠ .cell)
  (y4:∀x∈scope.names,x.2 = .local->scope.names.lookup x.1=some .local)(v6:closureFor scope X.env=pure cl)
  (hi:PI X tg iter wi)(hg:∀C fp s H,PG (aK X scope cl C N' fp s H) tg g)(ht:∀C fp s H,PTs (aK X scope cl C N' fp s H) ifs tt)(he:∀C fp s H,PE (aK X scope cl C N' fp s H) elt te)
  (hs:∀x,foldedSetIterable iter X.env x=pure x:=by intro _;rfl) (hsw:swapsWith (.ListComp elt [⟨tg,iter,ifs,0⟩] scope pos) (some (.Name x pos')) spos.line X.env=pure true:=by rfl):
  PS X (.Assign [.Name x pos'] (.ListComp elt [⟨tg,iter,ifs,0⟩] scope pos) spos) (oO i wi own.length fr g tt te):=by
 intro w9 s σ H D I h;rw[exec_Assign_Name_used _ _ _ _ hsw];refine wpAny_bind (wpAny_standAt (wpAny_bind ?_));show wpAny _ X.A (do let _ ← comprehension (.ListComp elt [⟨tg,iter,ifs,0⟩] scope pos) scope X.env _ (newList []) false (eval iter X.env) (some (assign (.Name x pos') X.env))) _ _ s;refine wpAny_bind (wpAny_mono (wpAny_comprehension_free (use:=some (assign (.Name x pos') X.env)) (Q:=λ_ s'=>SP X w9 D .next s') rfl hs v6 Z.kind y4
  (thn (hi w9 s σ H _ I h) λv s1 h1=>thn h1 λitv s2 h2=>?_)) (λ_ s' hq=>wpAny_pure (wpAny_pure hq)) λ_ _ e=>e)
 obtain⟨it,fp,tn,J,H2,e,I2,T,st2,f2,q2⟩:=h2;subst e;refine hU (Cm:=λX=>X.calm=true) (λ_=>hc) Z w5 (λC=>hg C _ _ _) (λC=>ht C _ _ _) (λC=>he C _ _ _) I2 T.toP st2 f2 q2 (RR:=λacc C=>compPost (model X.prog X.w) X.A X.xe (some (assign (.Name x pos') X.env)) (λ_ s'=>SP X w9 D .next s') acc C) λa C s' H' hC ⟨m,hm⟩ fC I' q'=>?_;show wpAny _ _ (assign (.Name x pos') X.env (.ref a)) _ _ s';have neC:∀b,b=X.env.locals ∨ X.env.cells.lookup x=some b->C≠b:=λb hb z=>by
  subst z;rcases hb with e |e
  ·exact Nat.ne_of_gt (l29 I2.lt hC) e
  ·obtain⟨v,q⟩:=I2.cell x C e;exact absurd (l29 q.lt hC) (l46 _)
 refine wpAny_assign_Name (jx I' hN hix (.inl hx) (v := .ref a) rfl (λs'' I'' ⟨b,sb,eb⟩=>?_) (.inr hx));refine⟨m,hm.sameBut sb (neC b eb),λh' hs'=>⟨_,H',jN I2 hC I'' fC hs',q'⟩⟩
end
open PySem PySem.Spec PyProof.Rows
open Builtin Builtin.Str
section
variable {X:Cx}
theorem mm:∀{ys:List Str} {us:List Value},Vals (ys.map V.str) us->∃l:List (Str×Tok),us=strValues l/\l.map (·.1)=ys
 | [],us,r=>by
  rw[l53] at r;cases r;exact⟨[],rfl,rfl⟩
 |y::ys,us,r=>by
  rw[l12] at r;cases r with
  |cons r1 r2=>
   obtain⟨t,e⟩:=r1;obtain⟨l,e1,e2⟩:=mm r2;subst e;subst e1;exact⟨(y,t)::l,rfl,by rw[l12,e2]⟩
theorem mn:∀(l:List (Str×Tok)),Vals ((l.map (·.1)).map V.str) (strValues l)
 | [] => .nil
 |(y,t)::l => .cons ⟨t,rfl⟩ (mn l)
inductive rSplit (x:V)(vs:List V)(H:Hp)(Q:VK):Prop
 |mk (z y)(_:x = .str z)(_:vs=[.str y])(_:(y.length==0)=false)(_:z.length<=1000000)(_:∀p,H p=none->Q (.ref p) (upd H p (.lst ((Txt.split z y).map V.str))))
def oP (z y:Str)(hz:z.length<=1000000):(partsBetween z (occurrences z y 0 z.length (z.length+1)) y.length).length<=sizeLine:=by
 have h1:=StrLaws.occ_length_le z y 0 z.length (z.length+1);have h2:sizeLine=16777216:=sizeLine_eq;unfold partsBetween;simp only[l0,List.length_zip,l4,l6,l25];omega
def mq:MtR X "str.split" rSplit:=by
 intro w9 s σ H x vs v us Q I rx rv h;obtain⟨z,y,rfl,rfl,hy,hz,q⟩:=h;obtain⟨t,rfl⟩:=rx;obtain⟨u,rfl,t2,rfl⟩:=rv.one;have hl:=oP z y hz;have hs:=sizeLine_eq;have fin:∀(l:List (Str×Tok)) (k:Nat),0 < k->l.map (·.1)=Txt.split z y->l.length<=sizeLine->EP X w9 σ Q (.ref s.heap.objs.size) { s with heap:=s.heap.push { cls := .type "list",data := .seq (strValues l).toArray },toks:=k }:=λl k hk e hn=>by
  have r:=mn l;rw[e] at r;have w6:((Txt.split z y).map V.str).length<=sizeLine:=by rw[l0,<- e,l0];exact hn
  exact⟨.ref _,_,I.lnew (t':=k) r w6 hk,rfl,q _ I.fresh⟩
 cases h1:(decide (z.length < y.length)||decide (strKind z < strKind y))
 ·cases hf:(occurrences z y 0 z.length (z.length+1)).isEmpty
  ·refine call_meets F.slot_str_split (typeIs_str _ _ _) F.entry_str_split (F.args_str_split_2 _ _) (meets_str_split_sep z y t t2 h1 hy hf nofun hl) ?_;show wants (EP X w9 σ Q) X.xe _ { s with toks:=_,heap:=s.heap.push { cls := .type "list",data := .seq (strsFrom s.toks (partsBetween z (occurrences z y 0 z.length (z.length+1)) y.length)).toArray } };rw[strsFrom_eq];refine fin (numbered s.toks _) _ (by have:=I.tk;omega) ((numbered_texts _ _).trans ((if_neg (ne_true_of_eq_false h1)).trans (if_neg (ne_true_of_eq_false hf))).symm) ?_;have e:=congrArg List.length (numbered_texts s.toks (partsBetween z (occurrences z y 0 z.length (z.length+1)) y.length));rw[l0] at e;rw[e];exact hl
  ·exact call_meets F.slot_str_split (typeIs_str _ _ _) F.entry_str_split (F.args_str_split_2 _ _) (meets_str_split_not_found z y t t2 h1 hy hf)
    (fin [(z,t)] s.toks I.tk ((if_neg (ne_true_of_eq_false h1)).trans (if_pos hf)).symm (by show 1<=sizeLine;decide))
 ·exact call_meets F.slot_str_split (typeIs_str _ _ _) F.entry_str_split (F.args_str_split_2 _ _) (meets_str_split_cannot_occur z y t t2 h1)
   (fin [(z,t)] s.toks I.tk (if_pos h1).symm (by show 1<=sizeLine;decide))
inductive rJoin (K:Frag)(x:V)(vs:List V)(H:Hp)(Q:VK):Prop
 |mk (z a ys)(_:x = .str z)(_:vs=[.ref a])(_:SqL K H a (ys.map V.str))(_:(ys.map (·.length)).sum+ys.length * z.length<=sizeLine)(_:Q (.str (Txt.join z ys)) H)
theorem jP (z:Str):∀(ys:List Str) (n:Nat),ys.foldl (λ(n:Nat) (s:Str)=>n+s.length+z.length) n=n+((ys.map (·.length)).sum+ys.length * z.length)
 | [],n=>by simp
 |y::ys,n=>by
  rw[l79,jP z ys,l12,l24,l4,Nat.succ_mul];omega
def bz:MtR X "str.join" (rJoin X.K):=by
 intro w9 s σ H x vs v us Q I rx rv h;obtain⟨z,a,ys,rfl,rfl,hq,hz,q⟩:=h;obtain⟨t,rfl⟩:=rx;obtain⟨u,rfl,ru⟩:=rv.one;cases ru;obtain⟨its,r,pl,hn⟩:=I.list hq;obtain⟨l,rfl,e⟩:=mm r;refine wpAny_with_toks (n:=1) I.tk (SC.join (texts:=ys) pl.isList e ?_ λt' k htk=>⟨.str (Txt.join z ys),H,I.tok _ htk,⟨_,rfl⟩,q⟩);unfold JoinOk tooLong;rw[<- Array.foldl_toList,List.toList_toArray,jP,l67];simpa using hz
inductive rS2 (f:Str->Str->V)(x:V)(vs:List V)(H:Hp)(Q:VK):Prop
 |mk (z y)(_:x = .str z)(_:vs=[.str y])(_:z.length<=sizeLine)(_:Q (f z y) H)
def ga:MtR X "str.rstrip" (rS2 λz y => .str (Txt.rstripChars z y)):=by
 intro w9 s σ H x vs v us Q I rx rv h;obtain⟨z,y,rfl,rfl,hz,q⟩:=h;obtain⟨t,rfl⟩:=rx;obtain⟨u,rfl,t2,rfl⟩:=rv.one;exact wpAny_with_toks (n:=1) I.tk (SC.rstripChars (λt' k htk=>⟨.str _,H,I.tok _ htk,⟨_,rfl⟩,q⟩) hz)
def jQ:MtR X "str.lstrip" (rS2 λz y => .str (Txt.lstripChars z y)):=by
 intro w9 s σ H x vs v us Q I rx rv h;obtain⟨z,y,rfl,rfl,hz,q⟩:=h;obtain⟨t,rfl⟩:=rx;obtain⟨u,rfl,t2,rfl⟩:=rv.one;exact wpAny_with_toks (n:=1) I.tk (SC.lstripChars (λt' k htk=>⟨.str _,H,I.tok _ htk,⟨_,rfl⟩,q⟩) hz)
def mr:MtR X "str.strip" (rS2 λz y => .str (Txt.stripChars z y)):=by
 intro w9 s σ H x vs v us Q I rx rv h;obtain⟨z,y,rfl,rfl,hz,q⟩:=h;obtain⟨t,rfl⟩:=rx;obtain⟨u,rfl,t2,rfl⟩:=rv.one;exact wpAny_with_toks (n:=1) I.tk (SC.stripChars (λt' k htk=>⟨.str _,H,I.tok _ htk,⟨_,rfl⟩,q⟩) hz)
def aP:MtR X "str.startswith" (rS2 λz y => .bl (Txt.startswith z y)):=by
 intro w9 s σ H x vs v us Q I rx rv h;obtain⟨z,y,rfl,rfl,hz,q⟩:=h;obtain⟨t,rfl⟩:=rx;obtain⟨u,rfl,t2,rfl⟩:=rv.one;exact SC.startswith ⟨.bl _,H,I,rfl,q⟩
def gb:MtR X "str.endswith" (rS2 λz y => .bl (Txt.endswith z y)):=by
 intro w9 s σ H x vs v us Q I rx rv h;obtain⟨z,y,rfl,rfl,hz,q⟩:=h;obtain⟨t,rfl⟩:=rx;obtain⟨u,rfl,t2,rfl⟩:=rv.one;exact SC.endswith ⟨.bl _,H,I,rfl,q⟩
def uI:MtR X "str.find" (rS2 λz y => .int (Txt.find z y)):=by
 intro w9 s σ H x vs v us Q I rx rv h;obtain⟨z,y,rfl,rfl,hz,q⟩:=h;obtain⟨t,rfl⟩:=rx;obtain⟨u,rfl,t2,rfl⟩:=rv.one;exact SC.find ⟨.int _,H,I.tok _,⟨_,rfl⟩,q⟩
inductive R_mt_lower (x:V)(vs:List V)(H:Hp)(Q:VK):Prop
 |mk (z)(_:x = .str z)(_:vs=[])(_:z.length<=1000000)(_:Q (.str (Txt.lower z)) H)
def rH:MtR X "str.lower" R_mt_lower:=by
 intro w9 s σ H x vs v us Q I rx rv h;obtain⟨z,rfl,rfl,hz,q⟩:=h;obtain⟨t,rfl⟩:=rx;cases rv.zero;exact SCL.lower nofun λ_=>⟨.str _,H,I.tok _,⟨_,rfl⟩,q⟩
def nA {o:Expr}{to:TE}{y z:Str}{jy jz:Nat}{py pz y9 y8:Pos}(ho:PE X o to)(hyz:(y==z)=false)(hzl:z.length<=14)
  (j7:attributeBase o "replace" X.env (eval o X.env)=eval o X.env:=by rfl) (y3:(y9.endLine==y8.line)=true:=by rfl):
  PE X (.Call (.Attribute o "replace" y9) [.Constant (.str y) jy py, .Constant (.str z) jz pz] [] y8) (λσ H Q=>to σ H λx H1=>∃w,x = .str w/\w.length<=1000000/\Q (.str (Txt.replace w y z)) H1):=by
 intro w9 s σ H Q I h;refine wpAny_Call_method_late j7 (by rfl) y3 rfl (thn (ho w9 s σ H _ I h) λv s1 ⟨x,H1,I1,r1,q1⟩=>?_);obtain⟨w,rfl,hw,q⟩:=q1;obtain⟨t,rfl⟩:=r1;refine⟨"str","str.replace",plainAttrs_str,F.slot_str_replace,F.type_str_replace,typeIs_str _ _ _,(λ_ e=>nomatch e),?_⟩;refine Calls.callWith_builtin (by rfl) (Calls.evalArgs_plain ?_);refine Calls.spliced_cons (Calls.Constant_str (k:=jy) (pos:=py) ?_);refine Calls.spliced_cons (Calls.Constant_str (k:=jz) (pos:=pz) ?_);refine Calls.spliced_nil ?_;have h0:=I1.tk;refine wpAny_with_toks (n:=1) (by show 1<=s1.toks+1+1;omega) (SC.replaceW (Nat.pos_iff_ne_zero.mp h0) (Nat.succ_ne_zero _) (l31 (l66 _)) hyz nofun hzl λt' k htk=>?_);exact⟨.str (Txt.replace w y z),H1,(I1.tok _ htk),⟨_,rfl⟩,q⟩
inductive R_op_mul_str (x y:V)(H:Hp)(Q:VK):Prop
 |mk (z n)(_:x = .str z)(_:y = .int n)(_:z.length=1)(_:0<=n)(_:n<=1000)(_:Q (.str (Txt.mul z n)) H)
def hV:OpR X (binaryOp .Mult) R_op_mul_str:=by
 intro w9 s σ H x y v u Q I rx ry h;obtain⟨z,n,rfl,rfl,hz,h0,h1,q⟩:=h;obtain⟨t,rfl⟩:=rx;obtain⟨t',rfl⟩:=ry;refine wpAny_with_toks (n:=1) I.tk (SB.mul ?_ λt' k htk=>⟨.str (Txt.mul z n),H,I.tok _ htk,⟨_,rfl⟩,q⟩);have hs:=sizeLine_eq;refine⟨?_,λ_ _=>?_,λ_ _=>?_⟩
 ·have e1:decide (n < -(2 ^ 63:Int))=false:=decide_eq_false nofun;have e2:decide (n ≥ 2 ^ 63)=false:=decide_eq_false nofun;rw[e1,e2];rfl
 ·rw[hz];have hn:n=0 ∨ 0 < n:=by omega
  intro q;have h9:(2 ^ 63 - 1:Int) / n ≥ 1:=by
   rename_i a _;have hp:0 < n:=by omega
   exact(Int.le_ediv_iff_mul_le hp).mpr nofun
  omega
 ·unfold tooLong;rw[hz];exact decide_eq_false nofun
inductive rSlS (x:V)(lo hi:Option Int)(H:Hp)(Q:VK):Prop
 |mk (z)(_:x = .str z)(_:z.length<=sizeLine)(_:Q (.str (Txt.slice z lo hi)) H)
def bt:SlR X rSlS:=by
 intro w9 s σ H x v vl vu lo hi sl Q I rx hs pl pu h;obtain⟨z,rfl,hz,q⟩:=h;obtain⟨t,rfl⟩:=rx;refine⟨"str",_,F.slot_str_getitem.lookup,typeIs_str _ _ _,?_⟩;have fin:∀(l u:Option (Int×Tok)),l.map (·.1)=lo->u.map (·.1)=hi->(sliceMade z t l u none).post (EP X w9 σ Q) s:=by
  intro l u el eu;subst el eu;unfold sliceMade;unfold Txt.slice at q;have e:slicePicked z l u none=strSliceIndices (l.map (·.1)) (u.map (·.1)) 1 z.length:=rfl;rw[e];show (if ((1:Int)==1&&(strSliceIndices (l.map (·.1)) (u.map (·.1)) 1 z.length).length==z.length)=true then Made.val (.str z t) else Made.str ⟨((strSliceIndices (l.map (·.1)) (u.map (·.1)) 1 z.length).filterMap (z.cps[·]?)).toArray⟩).post (EP X w9 σ Q) s;by_cases c:(((1:Int)==1&&(strSliceIndices (l.map (·.1)) (u.map (·.1)) 1 z.length).length==z.length))=true
  ·rw[if_pos c];rw[if_pos c] at q;exact⟨.str z,H,I,⟨_,rfl⟩,q⟩
  ·rw[if_neg c];rw[if_neg c] at q;have hl:=Txt.slice_le z (l.map (·.1)) (u.map (·.1));unfold Txt.slice at hl;rw[if_neg c] at hl;exact⟨l11 hl hz, .str _,H,I.tok _,⟨_,rfl⟩,q⟩
 have go:∀(l u:Option (Int×Tok)),vl=partValue l->vu=partValue u->l.map (·.1)=lo->u.map (·.1)=hi->wpAny (model X.prog X.w) X.A (getItem (.str z t) (.ref sl)) (EP X w9 σ Q) X.xe s:=by
  intro l u e1 e2 e3 e4;subst e1 e2;exact wpAny_getItem_str_slice (l:=l) (u:=u) (st:=none) hs rfl (fin l u e3 e4)
 cases pl with
 |none=>cases pu with
  |none=>exact go none none rfl rfl rfl rfl
  |int j tj=>exact go none (some (j,tj)) rfl rfl rfl rfl
 |int i ti=>cases pu with
  |none=>exact go (some (i,ti)) none rfl rfl rfl rfl
  |int j tj=>exact go (some (i,ti)) (some (j,tj)) rfl rfl rfl rfl
def Its (z:Str):It:=⟨λi _=>i < z.length,λi H x H'=>H'=H/\∃c,z.cps[i]? = some c/\x = .str ⟨#[c]⟩,λi _=>z.length<=i⟩
inductive iStr.I (R:(It->Hp->Prop))(x:V)(H1:Hp):Prop
 |mk (z)(_:x = .str z)(_:R (Its z) H1)
def iStr (tl:TE):TI:=λσ H R=>tl σ H (iStr.I R)
def rJ {P:Program}{w:World}{K:Frag}{x:Str}{px:Pos}(z:Str)(it:Addr)(ty:String)(t:Tok)(hty:ty="str_ascii_iterator" ∨ ty="str_iterator"):
  Turn P w K (.Name x px) (Its z) [it] it (λi h=>h.IsStrIter it ty z t i) where
 mem:=by simp
 obj:=λi h st b hb=>by
  have e:b=it:=by simpa using hb
  subst e;obtain⟨o,ho,_,hd⟩:=st;exact⟨o,ho,λv z=>by rw[hd] at z;cases z⟩
 keep:=λi h h' st k=>by
  obtain⟨o,ho,r⟩:=st;exact⟨o,k it (by simp) o ho,r⟩
 item:=by
  intro X hP hw hK hc i w9 s σ H E I hf st hg;subst hP hw hK;obtain⟨f0,f1,f2,f3,f4,f5⟩:=hf it (by simp);have hi:i < z.cps.size:=hg;have hx:z.cps[i]? = some z.cps[i]:=by simp[hi]
  have fin:∀h',h'.IsStrIter it ty z t (i+1)->Heap.SameBut it s.heap h'->∃u,(some (Value.str ⟨#[z.cps[i]]⟩ s.toks):Option Value)=some u ∧
    wpAny (model X.prog X.w) X.A (letOwnedTupleGo (.Name x px) (.ref it) u) (λ_ s2=>∃x H',Inv X w9 σ H' s2/\RelV x u/\(Its z).yld i H x H'/\s2.heap.IsStrIter it ty z t (i+1)/\∀b∈[it],H' b=none) E { s with heap:=h',toks:=s.toks+1 }:=
   λh' st' sb=>⟨_,rfl,wpAny_pure ⟨.str ⟨#[z.cps[i]]⟩,H,I.turned (λb o hb e=>(sb.2 b hb).trans e) f0 f1 f3 f4 f5,⟨_,rfl⟩,⟨rfl,_,hx,rfl⟩,st',λb hb=>(hf b hb).1⟩⟩
  rcases hty with rfl |rfl
  ·exact wpAny_pyNext_ascii_item st hx fin
  ·exact wpAny_pyNext_wide_item st hx fin
 done:=by
  intro X hP hw hK hc i w9 s σ H E I hf st hg;subst hP hw hK;obtain⟨f0,f1,f2,f3,f4,f5⟩:=hf it (by simp);have hx:z.cps[i]? = none:=by
   have:z.cps.size<=i:=hg;simp[this]
  rcases hty with rfl |rfl
  ·exact wpAny_pyNext_ascii_end (I.ok.hd hc) st hx λh' eb=>⟨rfl,I.turned (t':=s.toks) (λb o hb e=>eb b o hb e) f0 f1 f3 f4 f5⟩
  ·exact wpAny_pyNext_wide_end (I.ok.hd hc) st hx λh' eb=>⟨rfl,I.turned (t':=s.toks) (λb o hb e=>eb b o hb e) f0 f1 f3 f4 f5⟩
 self:=by
  intro A i s Q E st h;rcases hty with rfl |rfl
  ·exact wpAny_pyIter_striter_ascii st h
  ·exact wpAny_pyIter_striter_wide st h
def wE {l:Expr}{tl:TE}{x:Str}{px:Pos}(hl:PE X l tl):PI X (.Name x px) l (iStr tl):=by
 intro w9 s σ H R I h;refine thn (hl w9 s σ H _ I h) λv s1 ⟨y,H1,I1,r1,q1⟩=>?_;obtain⟨z,rfl,q⟩:=q1;obtain⟨t,rfl⟩:=r1;have fin:∀ty,(ty="str_ascii_iterator" ∨ ty="str_iterator")->PIE X w9 σ (.Name x px) R (.ref s1.heap.objs.size) { s1 with heap:=s1.heap.push { cls := .type ty,data := .fields #[.str z t, .int 0 0] } }:=λty hty=>by
  refine⟨s1.heap.objs.size,[s1.heap.objs.size],_,_,H1,rfl,I1.kept (t':=s1.toks) λb o e=>Heap.get?_push_of_some _ e,rJ z _ ty t hty,⟨_,Heap.get?_push_size _ rfl,rfl,rfl⟩,λb hb=>?_,q⟩;have e:b=s1.heap.objs.size:=by simpa using hb
  subst e;exact I1.fpOk (l5 _) (I1.hok.fresh (l5 _))
 cases ha:z.cps.all (· < 128)
 ·exact wpAny_pyIter_wide ha (fin _ (.inr rfl))
 ·exact wpAny_pyIter_ascii ha (fin _ (.inl rfl))
theorem gc:∀{bs:List Bool} {us:List Value} {i:Nat} {v:Value},Vals (bs.map V.bl) us->us[i]? = some v->∃b,bs[i]? = some b/\v = .bool b
 | [],_,_,_,r,e=>by
  rw[l53] at r;cases r;simp at e
 |b::bs,us,i,v,r,e=>by
  rw[l12] at r;cases r with
  |cons r1 r2=>
   cases i with
   |zero=>
    simp at e;subst e;exact⟨b,rfl,r1⟩
   |succ i=>
    obtain⟨c,h1,h2⟩:=gc (i:=i) r2 (by simpa using e);exact⟨c,by simpa using h1,h2⟩
def oQ (bs:List Bool):((List.range bs.length).all λi=>bs.getD i true)=bs.all id:=by
 rw[Bool.eq_iff_iff,l22,l22];constructor
 ·intro h b hb;obtain⟨i,hi,rfl⟩:=List.getElem_of_mem hb;have:=h i (l33.mpr hi);rw[l23,List.getElem?_eq_getElem hi] at this;exact this
 ·intro h i hi;have hi':=l33.mp hi;rw[l23,List.getElem?_eq_getElem hi'];exact h _ (l43 hi')
inductive R_call_all (K:Frag)(xs:List V)(H:Hp)(Q:VK):Prop
 |mk (a:Addr)(bs:List Bool)(_:xs=[.ref a])(_:SqL K H a (bs.map V.bl))(_:Q (.bl (bs.all id)) H)
def mt (hc:X.calm=true):cQ X (.builtin "all") (R_call_all X.K):=by
 intro w9 s σ H xs us Q I r h;obtain⟨a,bs,rfl,hq,q⟩:=h;obtain⟨u,rfl,rx⟩:=iA r;cases rx;obtain⟨its,r',pl,hz⟩:=I.list hq;have w6:its.toArray.size=bs.length:=by
  have:=r'.length;rw[l0] at this;rw[l26,this]
 have lt:a < s.heap.objs.size:=by
  obtain⟨o,n,e,_⟩:=pl;exact Heap.lt_size e
 refine wpAny_with_toks (n:=1) I.tk (call_all_walk ?_);refine wpAny_pyIter_list pl.isList ?_;refine⟨s.heap.objs.size,_,_,_,_,_,λi=>bs.getD i true,rfl,Walks.list (A:=X.A.in1) (I.ok.hd hc) s.heap.objs.size a (l31 lt) its.toArray,⟨⟨_,Heap.get?_push_size _ rfl,rfl,rfl⟩,?_⟩,?_,λh' tk kp htk=>?_⟩
 ·obtain⟨o,n,e,c,_,d⟩:=pl;exact⟨o,Heap.get?_push_of_some _ e,c,n,d⟩
 ·intro i v s' Q' E' hP hQ;have hP':its[i]? = some v:=by simpa using hP
  obtain⟨b,hb,rfl⟩:=gc r' hP';have hQ':Q' (bs.getD i true) s':=hQ;rw[l23,hb] at hQ';exact wpAny_truthy_bool hQ'
 ·rw[w6,oQ];refine⟨.bl _,H,I.kept (λb o e=>kp b o ?_ (Heap.get?_push_of_some _ e)) htk,rfl,q⟩;simp only[l14];exact l31 (Heap.lt_size e)
end
mutual
inductive Den (K:Frag) (H:Hp):V->PyData->Prop where
 |non:Den K H .non .none
 |bl (b:Bool):Den K H (.bl b) (.bool b)
 |int (i:Int):Den K H (.int i) (.int i)
 |str (x:Str) (h:PyData.strOk x=true):Den K H (.str x) (.str x)
 |lst {a:Addr} {xs:List V} {ds:List PyData}:SqL K H a xs->DenAll K H xs ds->Den K H (.ref a) (.list ds)
 |tup {a:Addr} {xs:List V} {ds:List PyData}:SqT K H a xs->DenAll K H xs ds->Den K H (.ref a) (.tuple ds)
inductive DenAll (K:Frag) (H:Hp):List V->List PyData->Prop where
 |nil:DenAll K H [] []
 |cons {x:V} {xs:List V} {d:PyData} {ds:List PyData}:Den K H x d->DenAll K H xs ds->DenAll K H (x::xs) (d::ds)
end
section
variable {X:Cx}{w9:List (Addr×Obj)}{σ:St}{H:Hp}{s:Shared}
mutual
theorem Den.reads (I:Inv X w9 σ H s):∀{x:V} {d:PyData} {u:Value},Den X.K H x d->RelV x u->∃as,Reads s.heap u d as
 |_,_,_, .non,r=>by cases r;exact⟨_, .none⟩
 |_,_,_, .bl b,r=>by cases r;exact⟨_, .bool b⟩
 |_,_,_, .int i,r=>by obtain⟨t,rfl⟩:=r;exact⟨_, .int i t⟩
 |_,_,_, .str x _,r=>by obtain⟨t,rfl⟩:=r;exact⟨_, .str x t⟩
 |_,_,_, .lst hq hd,r=>by
  cases r;obtain⟨its,rv,⟨o,n,e,c,_,d⟩,_⟩:=I.list hq;obtain⟨as,ra⟩:=DenAll.reads I hd rv;exact⟨_, .list e c d (by simpa using ra)⟩
 |_,_,_, .tup hq hd,r=>by
  cases r;obtain⟨its,rv,⟨o,e,c,n,d⟩,_⟩:=I.tuple hq;obtain⟨as,ra⟩:=DenAll.reads I hd rv;exact⟨_, .tuple e c d (by simpa using ra)⟩
theorem DenAll.reads (I:Inv X w9 σ H s):∀{xs:List V} {ds:List PyData} {us:List Value},DenAll X.K H xs ds->Vals xs us->∃as,ReadsAll s.heap us ds as
 |_,_,_, .nil,r=>by cases r;exact⟨_, .nil⟩
 |_,_,_, .cons h hs,r=>by
  cases r with
  |cons r1 r2=>
   obtain⟨as,a⟩:=Den.reads I h r1;obtain⟨bs,b⟩:=DenAll.reads I hs r2;exact⟨_, .cons a b⟩
end
end
mutual
theorem iG:∀d:PyData,d.canLay0=true->PyData.eqv d d=true
 | .none,_=>rfl
 | .bool b,_=>by simp[PyData.eqv]
 | .int i,_=>by simp[PyData.eqv]
 | .str x,_=>by simp[PyData.eqv]
 | .list xs,h=>by simp only[PyData.eqv];exact du xs (by simpa[PyData.canLay0] using h)
 | .tuple xs,h=>by simp only[PyData.eqv];exact du xs (by simpa[PyData.canLay0] using h)
 | .dict _,h=>by simp[PyData.canLay0] at h
theorem du:∀ds:List PyData,PyData.canLayAll0 ds=true->PyData.eqvAll ds ds=true
 | [],_=>rfl
 |d::ds,h=>by
  simp only[PyData.canLayAll0,Bool.and_eq_true] at h;simp only[PyData.eqvAll,Bool.and_eq_true];exact⟨iG d h.1,du ds h.2⟩
end
mutual
theorem Den.lay {K:Frag}{H:Hp}:∀{x:V} {d:PyData},Den K H x d->d.canLay0=true
 |_,_, .non=>rfl
 |_,_, .bl _=>rfl
 |_,_, .int _=>rfl
 |_,_, .str _ h=>h
 |_,_, .lst _ h=>by simp only[PyData.canLay0];exact h.lay
 |_,_, .tup _ h=>by simp only[PyData.canLay0];exact h.lay
theorem DenAll.lay {K:Frag}{H:Hp}:∀{xs:List V} {ds:List PyData},DenAll K H xs ds->PyData.canLayAll0 ds=true
 |_,_, .nil=>rfl
 |_,_, .cons h hs=>by simp only[PyData.canLayAll0,Bool.and_eq_true];exact⟨h.lay,hs.lay⟩
end
def ac {H:Hp}{p:Addr}(h:H p=none)(o:HO):Same H (upd H p o):=λb u q=>by rw[ag (ak q h)];exact q
def af {H H':Hp}{D:Addr}{o:HO}(hD:H D=none)(e:Same H H'):Same H (upd H' D o):=λb u q=>by
 rw[ag (ak q hD)];exact e b u q
def oR {J:It}{xs:List V}{k:Nat}{fr:List Nat}{g:TG}{tt:TT}{te:TE}{σ:St}{H0:Hp}{Q:Addr->Hp->Prop}(p:V->Bool)(f:V->V)(hl:xs.length<=sizeLine)
  (hgo:∀i H,Same H0 H->i < xs.length->J.go i H)(hyl:∀i H x H',i < xs.length->Same H0 H->J.yld i H x H'->H'=H/\xs[i]? = some x)(hst:∀i H,Same H0 H->xs.length<=i->J.stop i H)
  (ht:∀x∈xs,∀H',Same H0 H'->∀(C:V->Hp->Prop)(N:Hp->Prop),(∀H4,Same H' H4->p x=true->C (f x) H4)->(∀H3,Same H' H3->p x=false->N H3) →
   g x (nfS k fr σ) H' λσ2 H2=>nfLe k fr σ σ2/\tt σ2 H2 λb H3=>if b=true then te σ2 H3 C else N H3)
  (hq:∀D H',H0 D=none->Same H0 H'->H' D=some (.lst ((xs.filter p).map f))->Q D H'):rLC k fr g tt te σ J H0 Q:=by
 intro D hD;refine⟨λi m acc H=>m=xs.length - i/\i<=xs.length/\acc=((xs.take i).filter p).map f/\H D=some (.lst acc)/\Same H0 H,⟨xs.length,by simp,l10 _,by simp,aa,ac hD _⟩,?_⟩;rintro i m acc H ⟨rfl,hi,rfl,hDa,sm⟩;refine⟨hDa,?_⟩;by_cases hlt:i < xs.length
 ·refine .inr ⟨hgo i H sm hlt,λx H' y=>?_⟩;obtain⟨e,hxi⟩:=hyl i H x H' hlt sm y;subst e;have hmem:x∈xs:=l16 hxi;have htk:=take_succ_filter p xs i x hxi;refine ht x hmem H' sm _ _ (λH4 s4 hp=>?_) (λH3 s3 hp=>?_)
  ·refine⟨s4 _ _ hDa,?_,xs.length - (i+1),by omega,rfl,hlt,?_,aa,?_⟩
   ·rw[l0];have:=List.length_filter_le p (xs.take i);rw[l30] at this;omega
   ·rw[htk,hp];simp
   ·exact af hD (sm.trans s4)
  ·refine⟨xs.length - (i+1),by omega,rfl,hlt,?_,s3 _ _ hDa,sm.trans s3⟩;rw[htk,hp];simp
 ·have e:i=xs.length:=by omega
  subst e;rw[l80] at hDa ⊢;exact .inl ⟨hst _ H sm (l5 _),hq D H hD sm hDa⟩
def oS {K:Frag}{a:Addr}{xs:List V}{k:Nat}{fr:List Nat}{g:TG}{tt:TT}{te:TE}{σ:St}{H0:Hp}{Q:Addr->Hp->Prop}(p:V->Bool)(f:V->V)(hx:SqL K H0 a xs)(hl:xs.length<=sizeLine)
  (ht:∀x∈xs,∀H',Same H0 H'->∀(C:V->Hp->Prop)(N:Hp->Prop),(∀H4,Same H' H4->p x=true->C (f x) H4)->(∀H3,Same H' H3->p x=false->N H3) →
   g x (nfS k fr σ) H' λσ2 H2=>nfLe k fr σ σ2/\tt σ2 H2 λb H3=>if b=true then te σ2 H3 C else N H3)
  (hq:∀D H',H0 D=none->Same H0 H'->H' D=some (.lst ((xs.filter p).map f))->Q D H'):rLC k fr g tt te σ (Itl K a) H0 Q:=
 oR p f hl (λi H sm hi=>⟨xs,xs[i],sm.seq hx,by simp[hi]⟩) (λi H x H' _ sm y=>⟨y.1,by obtain⟨e,y⟩:=y;exact y xs (sm.seq hx)⟩) (λi H sm hi=>⟨xs,sm.seq hx,hi⟩) ht hq
def wF {z:Str}{k:Nat}{fr:List Nat}{g:TG}{tt:TT}{te:TE}{σ:St}{H0:Hp}{Q:Addr->Hp->Prop}(p:V->Bool)(f:V->V)(hl:z.length<=sizeLine)
  (ht:∀c∈z.cps.toList,∀H',Same H0 H'->∀(C:V->Hp->Prop)(N:Hp->Prop),(∀H4,Same H' H4->p (.str ⟨#[c]⟩)=true->C (f (.str ⟨#[c]⟩)) H4)->(∀H3,Same H' H3->p (.str ⟨#[c]⟩)=false->N H3) →
   g (.str ⟨#[c]⟩) (nfS k fr σ) H' λσ2 H2=>nfLe k fr σ σ2/\tt σ2 H2 λb H3=>if b=true then te σ2 H3 C else N H3)
  (hq:∀D H',H0 D=none->Same H0 H'->H' D=some (.lst (((z.cps.toList.map λc=>V.str ⟨#[c]⟩).filter p).map f))->Q D H'):rLC k fr g tt te σ (Its z) H0 Q:=by
 have hz:(z.cps.toList.map λc=>V.str ⟨#[c]⟩).length=z.length:=by rw[l0];simp[Str.length]
 refine oR p f (by rw[hz];exact hl) (λi H sm hi=>by rw[hz] at hi;exact hi) (λi H x H' hi sm y=>?_) (λi H sm hi=>by rw[hz] at hi;exact hi) (λx hx=>?_) hq
 ·obtain⟨e,c,h1,h2⟩:=y;refine⟨e,?_⟩;rw[List.getElem?_map,h2];have:z.cps.toList[i]? = some c:=by simpa using h1
  rw[this];rfl
 ·obtain⟨c,hc,rfl⟩:=l20.mp hx;exact ht c hc
def rK {n:Nat}{k:Nat}{fr:List Nat}{g:TG}{tt:TT}{te:TE}{σ:St}{H0:Hp}{Q:Addr->Hp->Prop}(lo:Int)(p:V->Bool)(f:V->V)(hl:n<=sizeLine)
  (ht:∀i,i < n->∀H',Same H0 H'->∀(C:V->Hp->Prop)(N:Hp->Prop),(∀H4,Same H' H4->p (.int (lo+(i:Nat)))=true->C (f (.int (lo+(i:Nat)))) H4)->(∀H3,Same H' H3->p (.int (lo+(i:Nat)))=false->N H3) →
   g (.int (lo+(i:Nat))) (nfS k fr σ) H' λσ2 H2=>nfLe k fr σ σ2/\tt σ2 H2 λb H3=>if b=true then te σ2 H3 C else N H3)
  (hq:∀D H',H0 D=none->Same H0 H'->H' D=some (.lst ((((List.range n).map λ(i:Nat)=>V.int (lo+i)).filter p).map f))->Q D H'):rLC k fr g tt te σ (Itr lo n) H0 Q:=by
 have hz:((List.range n).map λ(i:Nat)=>V.int (lo+i)).length=n:=by rw[l0,l38]
 refine oR p f (by rw[hz];exact hl) (λi H sm hi=>by rw[hz] at hi;exact hi) (λi H x H' hi sm y=>?_) (λi H sm hi=>by rw[hz] at hi;exact hi) (λx hx=>?_) hq
 ·obtain⟨e,h2⟩:=y;rw[hz] at hi;refine⟨e,?_⟩;rw[List.getElem?_map,List.getElem?_range hi,h2];rfl
 ·obtain⟨i,hi,rfl⟩:=l20.mp hx;exact ht i (l33.mp hi)
def FreeOk (X:Cx)(scope:Scope)(N':List Str):Nat->List Nat->List Str->Prop
 |_,[],[]=>True
 |k,j::fr,x::xs=>X.N[j]? = some x/\N'[k]? = some x/\(X.env.kindOf x=some .cell ∨ X.env.kindOf x=some .free) ∧
   ((relabel scope X.env).names.lookup x=some .cell ∨ (relabel scope X.env).names.lookup x=some .free)/\FreeOk X scope N' (k+1) fr xs
 |_,_,_=>False
def FreeOk.get {X:Cx}{scope:Scope}{N':List Str}:∀{k:Nat} {fr:List Nat} {xs:List Str},FreeOk X scope N' k fr xs->∀(i j:Nat),fr[i]? = some j->∃x,X.N[j]? = some x/\N'[k+i]? = some x ∧
  (X.env.kindOf x=some .cell ∨ X.env.kindOf x=some .free)/\((relabel scope X.env).names.lookup x=some .cell ∨ (relabel scope X.env).names.lookup x=some .free)
 |_,[],[],_,i,j,e=>by simp at e
 |_,[],_::_,h,_,_,_=>h.elim
 |_,_::_,[],h,_,_,_=>h.elim
 |k,j0::fr,x::xs,h,i,j,e=>by
  obtain⟨h1,h2,h3,h4,h5⟩:=h;cases i with
  |zero=>
   simp at e;subst e;exact⟨x,h1,h2,h3,h4⟩
  |succ i=>
   have:=h5.get i j (by simpa using e);have e2:k+1+i=k+(i+1):=by omega
   rw[e2] at this;exact this
def kS {X:Cx}{scope:Scope}{cl:List (Str×Addr)}{own:List Str}{fr:List Nat}{xs N':List Str}(cells:CellsIn X.env cl)(free:FreeOk X scope N' own.length fr xs)
  (nd:N'.Nodup)(all:((relabel scope X.env).names.all λy=>y.2 == .local||y.2 == .globalImplicit||(cl.lookup y.1).isSome)=true:=by rfl)
  (kind:scope.kind = .function:=by rfl) (len:N'.length=own.length+fr.length:=by rfl):CompN X scope cl own fr N':=by
 refine⟨kind,cells,λx hx=>?_,nd,len,λi j e=>free.get i j e⟩;have key:∀k,(relabel scope X.env).names.lookup x=some k->(k = .cell ∨ k = .free)->∃c,cl.lookup x=some c:=λk e hk=>by
  have hm:=PySem.mem_of_lookup e;have:=l22.mp all _ hm;rcases hk with rfl |rfl
  ·simp only[Bool.or_eq_true] at this;rcases this with (z |z) |z
   ·exact absurd z ∅
   ·exact absurd z ∅
   ·exact l77.mp z
  ·simp only[Bool.or_eq_true] at this;rcases this with (z |z) |z
   ·exact absurd z ∅
   ·exact absurd z ∅
   ·exact l77.mp z
 rcases hx with e |e
 ·exact key _ e (.inl rfl)
 ·exact key _ e (.inr rfl)
structure Def (P:Program)(w:World)(K:Frag)(mg:Str->Option Value)(base:Heap)(k:Nat)(x:Str)(ps:List Str)(sp:Sp):Prop where
 ex:∃f fd,FnOk P w K mg base CX0 k f fd ps sp/\mg x=some (.ref f)/\keepIn K (.ref f)=true/\Binds K fd ps []
section
variable {X:Cx}{k:Nat}{x:Str}{ps:List Str}{sp:Sp}{e:Expr}{es:List Expr}{te:TE}{t:TA}{p pos:Pos}
def rL (D:Def X.prog X.w X.K X.mg X.base k x ps sp)(hr:Room k X.A)(ha:PA X (e::es) t)(hg:Gl X x:=by exact rfl) (hdb:(x==("__debug__":Str))=false:=by decide)
  (he:starEach (e::es) X.env=(false,eval e X.env)::starEach es X.env:=by rfl) (hpl:(backTo pos (starEach es X.env)).any (·.1)=false:=by rfl):
  PE X (.Call (.Name x p) (e::es) [] pos) (tCall sp [] E0 t):=by
 obtain⟨f,fd,G,hm,hk,hb⟩:=D.ex;exact uy G hr hg hm hk hb .nil uF ha hdb he hpl
def cT:Expr->Bool
 | .Starred .. => true
 |_=>false
def bu {e:Expr}{es:List Expr}{env:Env}(h:cT e=false):starEach (e::es) env=(false,eval e env)::starEach es env:=by
 cases e <;> first |rfl |cases h
def aE:List Expr->Bool
 | []=>true
 |e::es => !cT e&&aE es
theorem cm {pos:Pos}{env:Env}:∀{es:List Expr},aE es=true->(backTo pos (starEach es env)).any (·.1)=false
 | [],_=>rfl
 |e::es,h=>by
  unfold aE at h;rw[Bool.and_eq_true,Bool.not_eq_true'] at h;rw[bu h.1];exact(show (false||(backTo pos (starEach es env)).any (·.1))=false by rw[cm h.2];rfl)
theorem jR {pos:Pos}{env:Env}:∀{es:List Expr},aE es=true->(backTo pos (starEach es env)).all (λx => !x.1)=true
 | [],_=>rfl
 |e::es,h=>by
  unfold aE at h;rw[Bool.and_eq_true,Bool.not_eq_true'] at h;rw[bu h.1];exact(show (true&&(backTo pos (starEach es env)).all (λx => !x.1))=true by rw[jR h.2];rfl)
def pa (ha:PE X e te)(hr:PA X es t)(h:cT e=false:=by rfl):PA X (e::es) (tCons te t):=ux ha hr (bu h)
def few {y8:Pos}{env:Env}{es:List Expr}(h:aE es=true)(hl:decide (es.length+([]:List Keyword).length+(if ([]:List Keyword).isEmpty then 0 else 1) < 30)=true):
  ((backTo y8 (starEach es env)).all (λx => !x.1)&&(backToKw y8 (keywordEach [] env)).all (λx=>x.1.isSome)
   && decide (es.length+([]:List Keyword).length+(if ([]:List Keyword).isEmpty then 0 else 1) < 30))=true:=by
 rw[jR h,hl];rfl
def pm {o e:Expr}{es:List Expr}{to:TE}{t:TA}{name:Str}{y9 y8:Pos}{T id:String}{r:V->List V->Hp->VK->Prop}(pa:PlainAttrs T)(slot:Slot T name id)(hty:typeOf (.builtin id)=pure (.type "method_descriptor"))(hm:MtR X id r)(ho:PE X o to)(ha:PA X (e::es) t)
  (j7:attributeBase o name X.env (eval o X.env)=eval o X.env)(hst:aE (e::es)=true:=by rfl) (hl:decide ((e::es).length+([]:List Keyword).length+(if ([]:List Keyword).isEmpty then 0 else 1) < 30)=true:=by rfl)
  (y3:(y9.endLine==y8.line)=true:=by rfl):PE X (.Call (.Attribute o name y9) (e::es) [] y8) (tBM X.K T r to t):=by
 have h2:aE es=true:=by
  unfold aE at hst;rw[Bool.and_eq_true] at hst;exact hst.2
 have h1:cT e=false:=by
  unfold aE at hst;rw[Bool.and_eq_true,Bool.not_eq_true'] at hst;exact hst.1
 exact xW pa slot hty hm ho ha j7 (few hst hl) y3 (bu h1) (cm h2)
def bQ:Expr->Bool
 | .Call (.Name x _) [] [] _=>x != Str.ofString "super"
 |_=>true
def base_of {o:Expr}{name:Str}{env:Env}{w:Sem Value}(h:bQ o=true):attributeBase o name env w=w:=by
 unfold attributeBase;split
 ·rename_i id _ _;have h:(id != Str.ofString "super")=true:=h;rw[h];rfl
 ·rfl
def cD {k:Nat}{x:Str}{ps:List Str}{sp:Sp}(D:Def X.prog X.w X.K X.mg X.base k x ps sp)(hr:Room k X.A)(ha:PA X (e::es) t)(hg:Gl X x:=by exact rfl) (hdb:(x==("__debug__":Str))=false:=by decide)
  (hst:aE (e::es)=true:=by rfl):PE X (.Call (.Name x p) (e::es) [] pos) (tCall sp [] E0 t):=by
 have h2:aE es=true:=by
  unfold aE at hst;rw[Bool.and_eq_true] at hst;exact hst.2
 have h1:cT e=false:=by
  unfold aE at hst;rw[Bool.and_eq_true,Bool.not_eq_true'] at hst;exact hst.1
 exact rL D hr ha hg hdb (bu h1) (cm h2)
def cB {id:String}{r:List V->Hp->VK->Prop}(hc:cQ X (.builtin id) r)(hg:Gl X x)(hm:X.mg x=none)(hv:bootBuiltins x=some (.builtin id))(ha:PA X (e::es) t)(hn:x≠"__name__":=by decide) (hdb:(x==("__debug__":Str))=false:=by decide)
  (hst:aE (e::es)=true:=by rfl):PE X (.Call (.Name x p) (e::es) [] pos) (tCB r t):=by
 have h2:aE es=true:=by
  unfold aE at hst;rw[Bool.and_eq_true] at hst;exact hst.2
 have h1:cT e=false:=by
  unfold aE at hst;rw[Bool.and_eq_true,Bool.not_eq_true'] at hst;exact hst.1
 exact rq hc hg hm hv ha hn hdb (bu h1) (cm h2)
inductive rIsT (K:Frag)(xs:List V)(H:Hp)(Q:VK):Prop
 |mk (x t T b)(_:xs=[x, .ty T])(_:TyOf K H x t)(_:kitOne K t (.type T)=some b)(_:Q (.bl b) H)
def iH:cQ X (.builtin "isinstance") (rIsT X.K):=by
 intro w9 s σ H xs us Q I r h;obtain⟨x,t,T,b,rfl,ty,e,q⟩:=h;obtain⟨u,v,rfl,rx,rv⟩:=r.two;cases rv;exact wpAny_with_toks (n:=1) I.tk (oG I rx ty e λtk htk=>⟨.bl b,H,I.tok _ htk,rfl,q⟩)
def iI (K:Frag)(t:Value):kitOne K t t=some true:=by
 unfold kitOne;rw[if_pos (beq_self_eq_true t)]
def rM {x y:Str}{pos:Pos}(h:∃t,X.mg x=some (.str y t))(hg:Gl X x:=by exact rfl) (hd:(x==("__debug__":Str))=false:=by decide):PE X (.Name x pos) (tC (.str y)):=by
 obtain⟨t,e⟩:=h;exact oo hg e ⟨t,rfl⟩ hd
def rN {x:Str}{y:Int}{pos:Pos}(h:∃t,X.mg x=some (.int y t))(hg:Gl X x:=by exact rfl) (hd:(x==("__debug__":Str))=false:=by decide):PE X (.Name x pos) (tC (.int y)):=by
 obtain⟨t,e⟩:=h;exact oo hg e ⟨t,rfl⟩ hd
end
structure XE (X:Cx)(e:Expr)(t:TE):Prop where
 h:PE X e t
structure XT (X:Cx)(e:Expr)(t:TT):Prop where
 h:PT X e t
structure XW (X:Cx)(e:Expr)(t:TT):Prop where
 h:PW X e t
structure XA (X:Cx)(e:List Expr)(t:TA):Prop where
 h:PA X e t
structure XS (X:Cx)(st:Stmt)(t:TS):Prop where
 h:PS X st t
structure XB (X:Cx)(st:List Stmt)(t:TS):Prop where
 h:PSs X st t
structure XG (X:Cx)(e:Expr)(t:TG):Prop where
 h:PG X e t
structure XGs (X:Cx)(e:List Expr)(t:TGs):Prop where
 h:PGs X e t
structure XI (X:Cx)(tg it:Expr)(t:TI):Prop where
 h:PI X tg it t
structure XO (X:Cx)(e:Option Expr)(t:TO):Prop where
 h:PO X e t
structure XQ (X:Cx)(ifs:List Expr)(t:TT):Prop where
 h:PTs X ifs t
def ap {X:Cx}{st:List Stmt}{t:TS}{D:Ends}{σ:St}{H:Hp}(h:XB X st t)(q:t D σ H):∃t,PSs X st t/\t D σ H:=⟨t,h.h,q⟩
section
variable {X:Cx}{a b c o e:Expr}{ta tb tc te to:TE}{tA tB':TT}{es:List Expr}{t:TA}{pos p p2 y9 y8:Pos}{x:Str}
def xb0:XB X [] iz:=⟨ui⟩
def xb1 {st:Stmt}{u:TS}(h:XS X st u):XB X [st] u:=⟨uj h.h⟩
def xbc {st:Stmt}{sts:List Stmt}{u v:TS}(h:XS X st u)(r:XB X sts v):XB X (st::sts) (tSeq u v):=⟨rf h.h r.h⟩
def xret (h:XE X e te):XS X (.Return (some e) pos) (tRet te):=⟨we h.h⟩
def xif {f g:List Stmt}{tf tg:TS}(h:XT X c tA)(h1:XB X f tf)(h2:XB X g tg):XS X (.If c f g pos) (tIfS tA tf tg):=⟨xK h.h h1.h h2.h⟩
def oT {st:Stmt}:XS X st tm:=⟨rh⟩
def aZ (h:XE X e te)(hs:swapsWith e none pos.line X.env=pure false:=by rfl):XS X (.Expr e pos) (tDrop te):=⟨uk h.h hs⟩
def xset {i:Nat}{pos':Pos}(hN:X.N.Nodup)(hi:X.N[i]? = some x)(hx:Loc X.env.scope x)(he:XE X e te)(hs:swapsWith e (some (.Name x pos')) pos.line X.env=pure false:=by rfl) (hf:X.fn x=true ∨ X.env.scope.names.lookup x=some .local:=by first |exact .inl rfl |exact .inr rfl):
  XS X (.Assign [.Name x pos'] e pos) (tAsg te (ah i)):=⟨wk hN hi hx he.h hs hf⟩
def xgn {i:Nat}(hN:X.N.Nodup)(hi:X.N[i]? = some x)(hx:Loc X.env.scope x)(hf:X.fn x=true ∨ X.env.scope.names.lookup x=some .local:=by first |exact .inl rfl |exact .inr rfl):XG X (.Name x pos) (ah i):=⟨ul hN hi hx hf⟩
def xst {i:Nat}{pos':Pos}(hN:X.N.Nodup)(he:XE X e te)(hi:X.N[i]? = some x:=by rfl) (hx:Loc X.env.scope x:=by exact Or.inl rfl) (hs:swapsWith e (some (.Name x pos')) pos.line X.env=pure false:=by rfl) (hf:X.fn x=true ∨ X.env.scope.names.lookup x=some .local:=by first |exact .inl rfl |exact .inr rfl):XS X (.Assign [.Name x pos'] e pos) (tAsg te (ah i)):=xset hN hi hx he hs hf
def xgm {i:Nat}(hN:X.N.Nodup)(hi:X.N[i]? = some x:=by rfl) (hx:Loc X.env.scope x:=by exact Or.inl rfl) (hf:X.fn x=true ∨ X.env.scope.names.lookup x=some .local:=by first |exact .inl rfl |exact .inr rfl):XG X (.Name x pos) (ah i):=xgn hN hi hx hf
def xgs0:XGs X [] gNil:=⟨um⟩
def xgsc {tg:TG}{tgs:TGs}(h1:XG X e tg)(h2:XGs X es tgs)(hs:(assignEach (e::es) X.env).map (·.2)=assign e X.env::(assignEach es X.env).map (·.2):=by rfl):XGs X (e::es) (gCons tg tgs):=⟨rj h1.h h2.h hs⟩
def xgt {k n:Nat}{tgs:TGs}(hc:X.calm=true)(h:XGs X es tgs)(hn:(assignEach es X.env).length=n:=by rfl) (hst:(assignEach es X.env).findIdx? (·.1)=none:=by rfl):XG X (.Tuple es k pos) (gTup X.K n tgs):=⟨wf hc h.h hn hst⟩
def xasg {tg:Expr}{g:TG}(he:XE X e te)(hg:XG X tg g)(hs:swapsWithSole [tg] e pos.line X.env=pure false:=by rfl) (hw:swappedStores [tg] e X.env=pure none:=by rfl)
  (h1:(assignEach [tg] X.env).map (·.2)=[assign tg X.env]:=by rfl):XS X (.Assign [tg] e pos) (tAsg te g):=⟨wj he.h hg.h hs hw h1⟩
def xfor {tg it:Expr}{body:List Stmt}{wi:TI}{g:TG}{tb:TS}(hp:PassesOwn (model X.prog X.w) X.A X.env X.xe)(hc:X.calm=true)(hi:XI X tg it wi)(hg:XG X tg g)(hb:XB X body tb)
  (hs:∀x,foldedSetIterable it X.env x=pure x:=by intro _;rfl):XS X (.For tg it body [] pos) (tFor wi g tb):=⟨wn hp hc hi.h hg.h hb.h hs⟩
def cU {body:List Stmt}{tb:TS}(hp:PassesOwn (model X.prog X.w) X.A X.env X.xe)(hc:XT X c tA)(hb:XB X body tb):XS X (.While c body [] pos) (tWhile tA tb):=⟨rk hp hc.h hb.h⟩
def xY {i:Expr}{ti:TE}{t:TSet}(ho:XE X o to)(hi:XE X i ti)(hs:PSet X t)
  (ha : ∀ v, assign (.Subscript o i pos) X.env v = (do
   let ov ← holding [v] (eval o X.env)
   let iv ← holding [v,ov] (eval i X.env)
   standAt pos
   holding [v,ov,iv] (setItem ov iv v)
   release [v,ov,iv] []):=by intro _;rfl):XG X (.Subscript o i pos) (gSub to ti t):=⟨wg ho.h hi.h hs ha⟩
def xir1 {tg:Expr}(hg:Gl X "range")(hm:X.mg "range"=none)(ha:XA X [a] t)(h:cT a=false:=by rfl):XI X tg (.Call (.Name "range" p) [a] [] pos) (iRng1 t):=⟨ow hg hm ha.h (bu h)⟩
def xil {tg l:Expr}{tl:TE}(h:XE X l tl):XI X tg l (iList X.K tl):=⟨uo h.h⟩
def xis {l:Expr}{tl:TE}{px:Pos}(h:XE X l tl):XI X (.Name x px) l (iStr tl):=⟨wE h.h⟩
def ay {op:CmpOp}{r:R2}(ho:OpR X (compareOp op) r)(ha:XE X a ta)(hb:XE X b tb)(hm:behindInMarks op b=false):XT X (.Compare a [op] [b] pos) (tTest (tOp r ta tb)):=⟨ur ho ha.h hb.h hm⟩
def ge (h:XT X a tA):XT X (.UnaryOp .Not a pos) (tNot tA):=⟨vZ h.h⟩
def bv (h:XE X e te)(he:∀whole,isTrue e X.env whole=(do let v ← whole;standAt e.pos;holding [v] (truthy v)):=by intro _;rfl):XT X e (tB te):=⟨vW h.h he⟩
def gW (h:XT X a tA):XW X (.BoolOp .And [a] pos) tA:=⟨uh h.h⟩
def xor1 (h:XT X a tA):XW X (.BoolOp .Or [a] pos) tA:=⟨vX h.h⟩
def xand {rest:List Expr}(h:XT X a tA)(h2:XW X (.BoolOp .And (b::rest) pos) tB'):XW X (.BoolOp .And (a::b::rest) pos) (tAnd tA tB'):=⟨vY h.h h2.h⟩
def xor {rest:List Expr}(h:XT X a tA)(h2:XW X (.BoolOp .Or (b::rest) pos) tB'):XW X (.BoolOp .Or (a::b::rest) pos) (tOr tA tB'):=⟨xI h.h h2.h⟩
def XW.xt (h:XW X e tA):XT X e tA:=⟨h.h.pt⟩
def xnon {j:Nat}:XE X (.Constant .none j pos) (tC .non):=⟨vU⟩
def xbl {k:Bool}{j:Nat}:XE X (.Constant (.bool k) j pos) (tC (.bl k)):=⟨xH⟩
def xint {i:Int}{j:Nat}:XE X (.Constant (.int i) j pos) (tC (.int i)):=⟨vT⟩
def xstr {y:Str}{j:Nat}:XE X (.Constant (.str y) j pos) (tC (.str y)):=⟨vV⟩
def xv (i:Nat)(hN:X.N[i]? = some x:=by rfl) (hv:Vis X.env.scope x:=by first |exact Or.inl rfl |exact Or.inr (Or.inl rfl) |exact Or.inr (Or.inr rfl)) (hd:(x==("__debug__":Str))=false:=by decide)
  (hcd:(x==("__classdict__":Str))=false:=by decide):XE X (.Name x pos) (tVar i):=⟨pv i hN hv hd hcd⟩
def xgS {y:Str}(h:∃t,X.mg x=some (.str y t))(hg:Gl X x:=by exact rfl) (hd:(x==("__debug__":Str))=false:=by decide):XE X (.Name x pos) (tC (.str y)):=⟨rM h hg hd⟩
def xgI {y:Int}(h:∃t,X.mg x=some (.int y t))(hg:Gl X x:=by exact rfl) (hd:(x==("__debug__":Str))=false:=by decide):XE X (.Name x pos) (tC (.int y)):=⟨rN h hg hd⟩
def xty {T:String}(hm:X.mg x=none)(hv:bootBuiltins x=some (.type T))(hg:Gl X x:=by exact rfl) (hn:x≠"__name__":=by decide) (hd:(x==("__debug__":Str))=false:=by decide):XE X (.Name x pos) (tC (.ty T)):=⟨ug hg hm hv rfl hn hd⟩
def xop {op:Operator}{r:R2}(ho:OpR X (binaryOp op) r)(ha:XE X a ta)(hb:XE X b tb):XE X (.BinOp a op b pos) (tOp r ta tb):=⟨xL ho ha.h hb.h⟩
def xun {op:UnaryOp}{r:V->Hp->VK->Prop}(ho:UnR X (unaryOp op) r)(ha:XE X a ta):XE X (.UnaryOp op a pos) (tUn r ta):=⟨xM ho ha.h⟩
def xcmp {op:CmpOp}{r:R2}(ho:OpR X (compareOp op) r)(ha:XE X a ta)(hb:XE X b tb)(hm:behindInMarks op b=false):XE X (.Compare a [op] [b] pos) (tOp r ta tb):=⟨uq ho ha.h hb.h hm⟩
def xone {op}(h:XE X a ta):XE X (.BoolOp op [a] pos) ta:=⟨wa h.h⟩
def uJ {rest:List Expr}(h:XE X a ta)(h2:XE X (.BoolOp .And (b::rest) pos) tb):XE X (.BoolOp .And (a::b::rest) pos) (tAndV ta tb):=⟨wb h.h h2.h⟩
def xorV {rest:List Expr}(h:XE X a ta)(h2:XE X (.BoolOp .Or (b::rest) pos) tb):XE X (.BoolOp .Or (a::b::rest) pos) (tOrV ta tb):=⟨xJ h.h h2.h⟩
def xifE (h:XT X c tA)(ha:XE X a ta)(hb:XE X b tb):XE X (.IfExp c a b pos) (tIf tA ta tb):=⟨re h.h ha.h hb.h⟩
def xo0:XO X none kN:=⟨uC⟩
def xo1 (h:XE X e te):XO X (some e) (tPart te):=⟨uD h.h⟩
def xsl {r:V->Option Int->Option Int->Hp->VK->Prop}{lo hi:Option Expr}{tl th:TO}(hr:SlR X r)(he:XE X e te)(hl:XO X lo tl)(hu:XO X hi th):XE X (.Subscript e (.Slice lo hi none p2) pos) (tSl r te tl th):=⟨rz hr he.h hl.h hu.h⟩
def xix {r:R2}(hr:IxR X r)(ha:XE X a ta)(hb:XE X b tb)(hs:oK b):XE X (.Subscript a b pos) (tOp r ta tb):=⟨xV hr ha.h hb.h hs⟩
def xa0:XA X [] tNil:=⟨wq⟩
def xac (ha:XE X e te)(hr:XA X es t)(h:cT e=false:=by rfl):XA X (e::es) (tCons te t):=⟨pa ha.h hr.h h⟩
def xlst (h:XA X es t):XE X (.List es pos) (tLst t):=⟨wt h.h⟩
def xtup {k}(h:XA X es t):XE X (.Tuple es k pos) (tTup t):=⟨wr h.h⟩
def xcD {k:Nat}{ps:List Str}{sp:Sp}(D:Def X.prog X.w X.K X.mg X.base k x ps sp)(hr:Room k X.A)(ha:XA X (e::es) t)(hg:Gl X x:=by exact rfl) (hdb:(x==("__debug__":Str))=false:=by decide) (hst:aE (e::es)=true:=by rfl):
  XE X (.Call (.Name x p) (e::es) [] pos) (tCall sp [] E0 t):=⟨cD D hr ha.h hg hdb hst⟩
def xcd {j k:Nat}{ps:List Str}{sp:Sp}(D:Def X.prog X.w X.K X.mg X.base k x ps sp)(hr:Room j X.A)(ha:XA X (e::es) t)(hg:Gl X x:=by exact rfl) (hdb:(x==("__debug__":Str))=false:=by decide) (hst:aE (e::es)=true:=by rfl) (hk:k<=j:=by omega):
  XE X (.Call (.Name x p) (e::es) [] pos) (tCall sp [] E0 t):=xcD D (hr.mono hk) ha hg hdb hst
def xcB {id:String}{r:List V->Hp->VK->Prop}(hc:cQ X (.builtin id) r)(hm:X.mg x=none)(hv:bootBuiltins x=some (.builtin id))(ha:XA X (e::es) t)(hg:Gl X x:=by exact rfl) (hn:x≠"__name__":=by decide) (hdb:(x==("__debug__":Str))=false:=by decide)
  (hst:aE (e::es)=true:=by rfl):XE X (.Call (.Name x p) (e::es) [] pos) (tCB r t):=⟨cB hc hg hm hv ha.h hn hdb hst⟩
def xcTy {T:String}{r:List V->Hp->VK->Prop}(hc:cQ X (.type T) r)(hm:X.mg x=none)(hv:bootBuiltins x=some (.type T))(ha:XA X (e::es) t)(hg:Gl X x:=by exact rfl) (hn:x≠"__name__":=by decide) (hdb:(x==("__debug__":Str))=false:=by decide)
  (hst:aE (e::es)=true:=by rfl):XE X (.Call (.Name x p) (e::es) [] pos) (tCB r t):=by
 have h1:cT e=false:=by
  have:=hst;unfold aE at this;rw[Bool.and_eq_true,Bool.not_eq_true'] at this;exact this.1
 have h2:aE es=true:=by
  have:=hst;unfold aE at this;rw[Bool.and_eq_true] at this;exact this.2
 exact⟨oI hc hg hm hv ha.h hn hdb (bu h1) (cm h2)⟩
def xm {name:Str}{T id:String}{r:V->List V->Hp->VK->Prop}(pa:PlainAttrs T)(slot:Slot T name id)(hty:typeOf (.builtin id)=pure (.type "method_descriptor"))(hm:MtR X id r)(ho:XE X o to)(ha:XA X (e::es) t)
  (hb:bQ o=true:=by rfl) (hst:aE (e::es)=true:=by rfl) (hl:decide ((e::es).length+([]:List Keyword).length+(if ([]:List Keyword).isEmpty then 0 else 1) < 30)=true:=by rfl)
  (y3:(y9.endLine==y8.line)=true:=by rfl):XE X (.Call (.Attribute o name y9) (e::es) [] y8) (tBM X.K T r to t):=⟨pm pa slot hty hm ho.h ha.h (base_of hb) hst hl y3⟩
def xmA (ho:XE X o to)(ha:XA X (e::es) t)(hb:bQ o=true:=by rfl) (hst:aE (e::es)=true:=by rfl) (hl:decide ((e::es).length+([]:List Keyword).length+(if ([]:List Keyword).isEmpty then 0 else 1) < 30)=true:=by rfl) (y3:(y9.endLine==y8.line)=true:=by rfl):XE X (.Call (.Attribute o "append" y9) (e::es) [] y8) (tBM X.K "list" rAppend to t):=xm PySem.F.plainAttrs_list PySem.F.slot_list_append PySem.F.type_list_append jK ho ha hb hst hl y3
def xm0 {name:Str}{T id:String}{r:V->List V->Hp->VK->Prop}(pa:PlainAttrs T)(slot:Slot T name id)(hty:typeOf (.builtin id)=pure (.type "method_descriptor"))(hm:MtR X id r)(ho:XE X o to)
  (hb:bQ o=true:=by rfl) (y3:(y9.endLine==y8.line)=true:=by rfl):XE X (.Call (.Attribute o name y9) [] [] y8) (tBM0 X.K T r to):=⟨wD pa slot hty hm ho.h (base_of hb) y3⟩
def xZ {y z:Str}{jy jz:Nat}{py pz:Pos}(ho:XE X o to)(hyz:(y==z)=false)(hzl:z.length<=14)(hb:bQ o=true:=by rfl) (y3:(y9.endLine==y8.line)=true:=by rfl):
  XE X (.Call (.Attribute o "replace" y9) [.Constant (.str y) jy py, .Constant (.str z) jz pz] [] y8) (λσ H Q=>to σ H λx H1=>∃w,x = .str w/\w.length<=1000000/\Q (.str (Txt.replace w y z)) H1):=⟨nA ho.h hyz hzl (base_of hb) y3⟩
def xq0:XQ X [] tYes:=⟨uG⟩
def xq1 (h:XT X c tA):XQ X [c] tA:=⟨uH h.h⟩
section
variable {scope:Scope}{cl:List (Str×Addr)}{own:List Str}{fr:List Nat}{N':List Str}{tg iter elt:Expr}{ifs:List Expr}{wi:TI}{g:TG}{tt:TT}
def xlc (hc:X.calm=true)(Z:CompN X scope cl own fr N')(w5:∀y∈scope.names,y.2 ≠ .cell)(y4:∀x∈scope.names,x.2 = .local->scope.names.lookup x.1=some .local)(v6:closureFor scope X.env=pure cl)
  (hi:XI X tg iter wi)(hg:∀C fp s H,XG (aK X scope cl C N' fp s H) tg g)(ht:∀C fp s H,XQ (aK X scope cl C N' fp s H) ifs tt)(he:∀C fp s H,XE (aK X scope cl C N' fp s H) elt te)
  (hs:∀x,foldedSetIterable iter X.env x=pure x:=by intro _;rfl):XE X (.ListComp elt [⟨tg,iter,ifs,0⟩] scope pos) (tLC wi own.length fr g tt te):=
 ⟨xX hc Z w5 y4 v6 hi.h (λC fp s H=>(hg C fp s H).h) (λC fp s H=>(ht C fp s H).h) (λC fp s H=>(he C fp s H).h) hs⟩
def xslc {i:Nat}{pos' spos:Pos}(hN:X.N.Nodup)(hix:X.N[i]? = some x)(hx:X.env.scope.names.lookup x=some .local)(hc:X.calm=true)(Z:CompN X scope cl own fr N')(w5:∀y∈scope.names,y.2 ≠ .cell)
  (y4:∀x∈scope.names,x.2 = .local->scope.names.lookup x.1=some .local)(v6:closureFor scope X.env=pure cl)
  (hi:XI X tg iter wi)(hg:∀C fp s H,XG (aK X scope cl C N' fp s H) tg g)(ht:∀C fp s H,XQ (aK X scope cl C N' fp s H) ifs tt)(he:∀C fp s H,XE (aK X scope cl C N' fp s H) elt te)
  (hs:∀x,foldedSetIterable iter X.env x=pure x:=by intro _;rfl) (hsw:swapsWith (.ListComp elt [⟨tg,iter,ifs,0⟩] scope pos) (some (.Name x pos')) spos.line X.env=pure true:=by rfl):
  XS X (.Assign [.Name x pos'] (.ListComp elt [⟨tg,iter,ifs,0⟩] scope pos) spos) (oO i wi own.length fr g tt te):=
 ⟨rG hN hix hx hc Z w5 y4 v6 hi.h (λC fp s H=>(hg C fp s H).h) (λC fp s H=>(ht C fp s H).h) (λC fp s H=>(he C fp s H).h) hs hsw⟩
def xlc0 (hi:XI X tg iter wi)(hg:∀C fp s H,XG (aK X scope [] C own fp s H) tg g)(ht:∀C fp s H,XQ (aK X scope [] C own fp s H) ifs tt)(he:∀C fp s H,XE (aK X scope [] C own fp s H) elt te)(hs:∀x,foldedSetIterable iter X.env x=pure x:=by intro _;rfl) (hc:X.calm=true:=by rfl) (Z:CompN X scope [] own [] own:=by exact kS (xs:=[]) trivial trivial ∅) (w5:∀y∈scope.names,y.2 ≠ .cell:=by decide) (y4:∀x∈scope.names,x.2 = .local->scope.names.lookup x.1=some .local:=by decide) (v6:closureFor scope X.env=pure []:=by with_unfolding_all rfl):XE X (.ListComp elt [⟨tg,iter,ifs,0⟩] scope pos) (tLC wi own.length [] g tt te):=xlc hc Z w5 y4 v6 hi hg ht he hs
def rO {i:Nat}{pos' spos:Pos}(hN:X.N.Nodup)(hi:XI X tg iter wi)(hg:∀C fp s H,XG (aK X scope [] C own fp s H) tg g)(ht:∀C fp s H,XQ (aK X scope [] C own fp s H) ifs tt)(he:∀C fp s H,XE (aK X scope [] C own fp s H) elt te)(hs:∀x,foldedSetIterable iter X.env x=pure x:=by intro _;rfl) (hc:X.calm=true:=by rfl) (Z:CompN X scope [] own [] own:=by exact kS (xs:=[]) trivial trivial ∅) (w5:∀y∈scope.names,y.2 ≠ .cell:=by decide) (y4:∀x∈scope.names,x.2 = .local->scope.names.lookup x.1=some .local:=by decide) (v6:closureFor scope X.env=pure []:=by with_unfolding_all rfl) (hix:X.N[i]? = some x:=by rfl) (hx:X.env.scope.names.lookup x=some .local:=by rfl) (hsw:swapsWith (.ListComp elt [⟨tg,iter,ifs,0⟩] scope pos) (some (.Name x pos')) spos.line X.env=pure true:=by rfl):XS X (.Assign [.Name x pos'] (.ListComp elt [⟨tg,iter,ifs,0⟩] scope pos) spos) (oO i wi own.length [] g tt te):=xslc hN hix hx hc Z w5 y4 v6 hi hg ht he hs hsw
end
end
section
variable {X:Cx}{e l:Expr}{te:TE}{t:TA}{pos p p1 p2 p3:Pos}
section
variable {scope:Scope}{cl:List (Str×Addr)}{C:Addr}{N':List Str}{fp:List Addr}{s:Shared}{H:Hp}
def oU:IxR (aK X scope cl C N' fp s H) (rIxT X.K):=aB (X:=aK X scope cl C N' fp s H)
def mv:IxR (aK X scope cl C N' fp s H) (rIxL X.K):=ax (X:=aK X scope cl C N' fp s H)
end
end
section
variable {X:Cx}{w9:List (Addr×Obj)}{σ:St}{H:Hp}{s:Shared}{h':Heap}
theorem fw:∀{ns:List Int} {us:List Value} {i:Nat} {v:Value},Vals (ns.map V.int) us->us[i]? = some v->∃t,v = .int (ns.getD i 0) t
 | [],_,i,v, .nil,e=>by simp at e
 |n::ns,_,0,v, .cons r t,e=>by
  obtain⟨tk,rfl⟩:=r;cases e;exact⟨tk,rfl⟩
 |n::ns,_,i+1,v, .cons r t,e=>fw (ns:=ns) (i:=i) t (by simpa using e)
def rP {ns:List Int}{i:Nat}(h:i < ns.length):ns.getD i 0∈ns:=by
 rw[l23,List.getElem?_eq_getElem h];exact l43 h
def rQ {ns:List Int}{x:Int}(h:x∈ns):∃i,i < ns.length/\ns.getD i 0=x:=by
 obtain⟨i,hi,e⟩:=List.getElem_of_mem h;exact⟨i,hi,by rw[l23,List.getElem?_eq_getElem hi,e];rfl⟩
inductive R_call_maxL (K:Frag)(xs:List V)(H:Hp)(Q:VK):Prop
 |mk (a:Addr)(ns:List Int)(_:xs=[.ref a])(_:SqL K H a (ns.map V.int))(_:0 < ns.length)(_:∀m,m∈ns->(∀x∈ns,x<=m)->Q (.int m) H)
def jS (hc:X.calm=true):cQ X (.builtin "max") (R_call_maxL X.K):=by
 intro w9 s σ H xs us Q I r h;obtain⟨a,ns,rfl,hq,hpos,q⟩:=h;obtain⟨u,rfl,rx⟩:=iA r;cases rx;obtain⟨its,r',pl,hz⟩:=I.list hq;have w6:its.toArray.size=ns.length:=by
  have:=r'.length;rw[l0] at this;rw[l26,this]
 have lt:a < s.heap.objs.size:=by
  obtain⟨o,n,e,_⟩:=pl;exact Heap.lt_size e
 refine wpAny_with_toks (n:=1) I.tk (call_max_walk ?_);refine wpAny_pyIter_list pl.isList ?_;have hP:∀(i:Nat) (v:Value),its.toArray[i]? = some v->∃t,v=Value.int (ns.getD i 0) t:=λi v hP=>fw r' (by simpa using hP);refine⟨s.heap.objs.size,_,_,_,_,_,_,rfl,Walks.list (A:=X.A.in1) (I.ok.hd hc) s.heap.objs.size a (l31 lt) its.toArray,⟨⟨_,Heap.get?_push_size _ rfl,rfl,rfl⟩,?_⟩,?_,by omega,CmpOf.ints_gt (λi=>ns.getD i 0) hP,λv h' tk hv kp htk=>?_⟩
 ·obtain⟨o,n,e,c,_,d⟩:=pl;exact⟨o,Heap.get?_push_of_some _ e,c,n,d⟩
 ·intro b hb;rw[show (s.heap.push { cls:=Value.type "list_iterator",data:=Data.fields #[Value.ref a,Value.int 0 0] }).objs.size=s.heap.objs.size+1 from by simp[Heap.push]];rcases l9.mp hb with rfl |hb
  ·exact l66 _
  ·have:b=a:=by simpa using hb
   subst this;exact Nat.lt_succ_of_lt lt
 ·obtain⟨t,rfl⟩:=hP _ _ hv;have hb:=argBest_gt (λi=>ns.getD i 0) (its.toArray.size - 1);rw[w6] at hb ⊢;refine⟨.int _,H,I.kept (λb o e=>kp b o ?_ (Heap.get?_push_of_some _ e)) htk,⟨_,rfl⟩,q _ (rP nofun) λx hx=>?_⟩
  ·simp only[l14];exact l31 (Heap.lt_size e)
  ·obtain⟨i,hi,rfl⟩:=rQ hx;exact hb.2 i nofun
end
structure OwnX (K:Frag)(C:Addr):Prop where
 ex:∃(bmB:List Value) (newId initId B:String),excIn K C bmB newId=true/\ExcBaseFacts B newId initId bmB
open PySem PySem.Spec PySem.Calls PyProof.Rows PySem.W PySem.Builtin PySem.Builtin.Str PySem.Builtin.ObjectAttr PySem.Builtin.Getset_descriptor
section
variable {X:Cx}{x:Str}{pos p:Pos}
inductive R_op_mulS (x y:V)(H:Hp)(Q:VK):Prop
 |mk (z n)(_:x = .str z)(_:y = .int n)(_:z.length<=1000)(_:0<=n)(_:n<=1000)(_:Q (.str (Txt.mul z n)) H)
def iJ:OpR X (binaryOp .Mult) R_op_mulS:=by
 intro w9 s σ H x y v u Q I rx ry h;obtain⟨z,n,rfl,rfl,hz,h0,h1,q⟩:=h;obtain⟨t,rfl⟩:=rx;obtain⟨t',rfl⟩:=ry;refine wpAny_with_toks (n:=1) I.tk (SB.mul ?_ λt' k htk=>⟨.str (Txt.mul z n),H,I.tok _ htk,⟨_,rfl⟩,q⟩);have hs:=sizeLine_eq;have hm:(z.length:Int) * n<=1000 * 1000:=Int.mul_le_mul nofun h1 h0 nofun;have hm2:z.length * n.toNat<=1000 * 1000:=Nat.mul_le_mul hz nofun;refine⟨?_,λ_ _=>?_,λ_ _=>?_⟩
 ·have e1:decide (n < -(2 ^ 63:Int))=false:=decide_eq_false nofun;have e2:decide (n ≥ 2 ^ 63)=false:=decide_eq_false nofun;rw[e1,e2];rfl
 ·intro q;rename_i a _;have hp:0 < n:=by omega
  have h9:(z.length:Int)<=(2 ^ 63 - 1:Int) / n:=(Int.le_ediv_iff_mul_le hp).mpr nofun;omega
 ·unfold tooLong;exact decide_eq_false nofun
end
open PySem PySem.Spec PyProof.Rows
section
variable {X:Cx}{scope:Scope}{cl:List (Str×Addr)}{C:Addr}{N':List Str}{fp:List Addr}{s:Shared}{H:Hp}{o e:Expr}{es:List Expr}{to:TE}{t:TA}{y9 y8:Pos}
def rR:MtR (aK X scope cl C N' fp s H) "str.join" (rJoin X.K):=bz (X:=aK X scope cl C N' fp s H)
def xmC {name:Str}{T id:String}{r:V->List V->Hp->VK->Prop}(pa:PlainAttrs T)(slot:Slot T name id)(hty:typeOf (.builtin id)=pure (.type "method_descriptor"))(hm:MtR (aK X scope cl C N' fp s H) id r)
  (ho:XE (aK X scope cl C N' fp s H) o to)(ha:XA (aK X scope cl C N' fp s H) (e::es) t)(hb:bQ o=true:=by rfl) (hst:aE (e::es)=true:=by rfl)
  (hl:decide ((e::es).length+([]:List Keyword).length+(if ([]:List Keyword).isEmpty then 0 else 1) < 30)=true:=by rfl) (y3:(y9.endLine==y8.line)=true:=by rfl):
  XE (aK X scope cl C N' fp s H) (.Call (.Attribute o name y9) (e::es) [] y8) (tBM X.K T r to t):=xm (X:=aK X scope cl C N' fp s H) pa slot hty hm ho ha hb hst hl y3
end
end L2
namespace Lm
def aG (c:Nat):List Nat->List (List Nat)
 | []=>[[]]
 |x::r=>if x=c then []::aG c r else
  match aG c r with
  |h::t=>(x::h)::t
  | []=>[[x]]
theorem oV (c:Nat):∀l:List Nat,aG c l≠[]
 | []=>by simp[aG]
 |x::r=>by
  unfold aG;split
  ·simp
  ·split <;> simp
def aT (c x:Nat)(r:List Nat)(h:x≠c):∃p t,aG c r=p::t/\aG c (x::r)=(x::p)::t:=by
 have e:aG c (x::r)=match aG c r with
   |h::t=>(x::h)::t
   | []=>[[x]]:=by
  rw[aG,if_neg h]
 cases q:aG c r with
 |nil=>exact absurd q (oV c r)
 |cons p t=>exact⟨p,t,rfl,by rw[e,q]⟩
def bi (c:Nat)(r:List Nat):aG c (c::r)=[]::aG c r:=by rw[aG,if_pos rfl]
theorem gf (c:Nat):∀l:List Nat,c∉l->aG c l=[l]
 | [],_=>rfl
 |x::r,h=>by
  have hx:x≠c:=λe=>h (by simp[e]);have ih:=gf c r λz=>h (l7 _ z);obtain⟨p,t,e1,e2⟩:=aT c x r hx;rw[ih] at e1;cases e1;exact e2
theorem h7 (c:Nat):∀(a r:List Nat),c∉a->aG c (a++c::r)=a::aG c r
 | [],r,_=>by rw[l42,bi]
 |x::a,r,h=>by
  have hx:x≠c:=λe=>h (by simp[e]);have ih:=h7 c a r λz=>h (l7 _ z);obtain⟨p,t,e1,e2⟩:=aT c x (a++c::r) hx;rw[ih] at e1;cases e1;exact e2
theorem h8 (c:Nat):∀(l:List Nat),(aG c l).length<=l.length+1
 | []=>by simp[aG]
 |x::r=>by
  have ih:=h8 c r;by_cases hx:x=c
  ·subst hx;rw[bi];simp only[l4];omega
  ·obtain⟨q,t,e1,e2⟩:=aT c x r hx;rw[e2];rw[e1] at ih;simp only[l4] at ih ⊢;omega
def ao (g:List Nat):List (List Nat)->List Nat
 | []=>[]
 | [p]=>p
 |p::q::r=>p++g++ao g (q::r)
def bj (g p:List Nat)(r:List (List Nat))(h:r≠[]):ao g (p::r)=p++g++ao g r:=by
 cases r with
 |nil=>exact absurd rfl h
 |cons q r=>rfl
theorem fh (c:Nat):∀ps:List (List Nat),ps≠[]->(∀p∈ps,c∉p)->aG c (ao [c] ps)=ps
 | [],h,_=>absurd rfl h
 | [p],_,hp=>gf c p (hp p (by simp))
 |p::q::r,_,hp=>by
  show aG c (p++[c]++ao [c] (q::r))=_;rw[l18,l87,h7 c p _ (hp p (by simp)),fh c (q::r) (by simp) λz hz=>hp z (l7 _ hz)]
def aN (l:List Nat):List (List Nat):=(aG 32 l).filter (λw=>w≠[])
def bR (l:List Nat):List Nat:=ao [32] (aN l)
def kT (l:List Nat):aN (32::l)=aN l:=by simp[aN,bi]
open PySem PySem.Builtin PySem.Builtin.Str PySem.StrLaws
abbrev S (l:List Nat):Str:=⟨l.toArray⟩
def aA (l:List Nat):(S l).length=l.length:=by simp[Str.length]
def b7 (l:List Nat):(S l).cps.toList=l:=by simp
def S_of (x:Str):S x.cps.toList=x:=by cases x;simp
def fH {a b:List Nat}(h:S a=S b):a=b:=by
 have:=congrArg (λx:Str=>x.cps.toList) h;simpa using this
def dN (a b:List Nat):S a++S b=S (a++b):=by
 show Str.append (S a) (S b)=_;simp[Str.append]
theorem tF (g:List Nat):∀ps:List Str,(Str.join (S g) ps).cps.toList=ao g (ps.map λp=>p.cps.toList)
 | []=>rfl
 | [p]=>rfl
 |p::q::r=>by
  show ((p++S g++Str.join (S g) (q::r)):Str).cps.toList=_;rw[Str.cps_append,Str.cps_append,Array.toList_append,Array.toList_append,tF g (q::r)];rfl
def kU (c:Nat)(l:List Nat):Txt.split (S l) (S [c])=(aG c l).map S:=by
 have h1:=join_split (S l) (S [c]);have h2:=split_free (S l) c;have h3:∀ps:List Str,ps=(ps.map λp=>p.cps.toList).map S:=λps=>by
  rw[l19]
  conv=>lhs;rw[<- l61 ps]
  refine l50 λp _=>?_;exact(S_of p).symm
 have h4:ao [c] ((Txt.split (S l) (S [c])).map λp=>p.cps.toList)=l:=by
  have:=congrArg (λx:Str=>x.cps.toList) h1;simp only[b7] at this;rw[<- tF];exact this
 have ne:(Txt.split (S l) (S [c])).map (λp=>p.cps.toList)≠[]:=by
  unfold Txt.split;split
  ·simp
  ·split
   ·simp
   ·rw[partsBetween_eq];obtain⟨p,r,e⟩:=partsFrom_ne (S l) (S [c]).length 0 (occurrences (S l) (S [c]) 0 (S l).length ((S l).length+1));rw[e];simp
 have h5 := fh c _ ne (λp hp=>by
  obtain⟨q,hq,rfl⟩:=l20.mp hp;exact h2 q hq)
 rw[h4] at h5;rw[h5];exact h3 _
def oW (g:List Nat)(ps:List (List Nat)):glued (S g) (ps.map S)=S (ao g ps):=by
 have key:∀(ps:List (List Nat)) (acc:List Nat),(ps.map S).foldl (λacc p=>acc++(S g).cps++p.cps) acc.toArray=(acc++(ps.map λp=>g++p).flatten).toArray:=by
  intro ps
  induction ps with
  |nil=>intro acc;simp
  |cons p r ih=>
   intro acc;rw[l12,l79];have e:acc.toArray++(S g).cps++(S p).cps=(acc++g++p).toArray:=by simp
   rw[e,ih];simp
 have gl:∀(p:List Nat) (r:List (List Nat)),ao g (p::r)=p++(r.map λp=>g++p).flatten:=by
  intro p r
  induction r generalizing p with
  |nil=>simp[ao]
  |cons q r ih=>rw[bj g p (q::r) (by simp),ih q];simp
 unfold glued;cases ps with
 |nil=>rfl
 |cons p r=>
  rw[gl];show (⟨(List.drop 1 (S p::r.map S)).foldl _ (S p).cps⟩:Str)=_;rw[List.drop_one,List.tail_cons,key]
def bD (g:List Nat)(ps:List (List Nat)):Txt.join (S g) (ps.map S)=S (ao g ps):=oW g ps
def bS (p:Nat->Bool)(l:List Nat):List Nat:=(l.reverse.dropWhile p).reverse
def fz (l:List Nat)(p:Nat->Bool):l.take (l.length - (l.reverse.takeWhile p).length)=bS p l:=by
 unfold bS;have h:l.reverse=l.reverse.takeWhile p++l.reverse.dropWhile p:=(l54).symm;have h2:l=(l.reverse.dropWhile p).reverse++(l.reverse.takeWhile p).reverse:=by
  have:=congrArg List.reverse h;rw[List.reverse_reverse,l81] at this;exact this
 conv=>lhs;arg 2;rw[h2]
 have e:l.length - (l.reverse.takeWhile p).length=(l.reverse.dropWhile p).reverse.length:=by
  have:=congrArg List.length h;rw[l6,l82] at this;rw[l82];omega
 rw[e,l55]
def mw (l y:List Nat):Txt.rstripChars (S l) (S y)=S (bS y.contains l):=by
 have e:(S y).cps.contains=y.contains:=by funext c;simp
 unfold Txt.rstripChars Txt.stripBy;rw[e];have h0:stripLo y.contains false (S l)=0:=rfl;have h1:stripHi y.contains true (S l) 0=l.length - (l.reverse.takeWhile y.contains).length:=by
  simp[stripHi,Str.length]
 split
 ·rename_i h;rw[stripSame,h0,h1] at h;simp only[beq_self_eq_true,Bool.true_and,beq_iff_eq,aA] at h;rw[<- fz,h,l80]
 ·rw[stripped,h0,h1];unfold strSub;rw[<- fz];simp
def iK (l y:List Nat):Txt.lstripChars (S l) (S y)=S (l.dropWhile y.contains):=by
 have e:(S y).cps.contains=y.contains:=by funext c;simp
 have hd:l.drop (l.takeWhile y.contains).length=l.dropWhile y.contains:=by
  conv=>lhs;arg 2;rw[<- l54 (p:=y.contains) (l:=l)]
  rw[l48]
 unfold Txt.lstripChars Txt.stripBy;rw[e];have h0:stripLo y.contains true (S l)=(l.takeWhile y.contains).length:=by simp[stripLo]
 have h1:∀k,stripHi y.contains false (S l) k=l.length:=λk=>by simp[stripHi,Str.length]
 split
 ·rename_i h;rw[stripSame,h0,h1] at h;simp only[Bool.and_eq_true,beq_iff_eq] at h;rw[<- hd,h.1,List.drop_zero]
 ·rw[stripped,h0,h1];unfold strSub;rw[<- hd];simp only[List.extract_toArray,List.extract_eq_take_drop];rw[l39 (by rw[l13];exact l5 _)]
def gg (l y:List Nat)(i:Nat):subAt (S l) (S y) i=decide ((l.drop i).take y.length=y):=by
 unfold subAt;rw[Bool.eq_iff_iff];simp only[beq_iff_eq,decide_eq_true_eq];rw[<- Array.toList_inj];simp[aA]
def At_S (l y:List Nat)(i:Nat):At (S l) (S y) (S l).length i ↔ i+y.length<=l.length/\(l.drop i).take y.length=y:=by
 unfold At;rw[gg,aA,aA];simp
def fK (l y:List Nat):Txt.startswith (S l) (S y)=y.isPrefixOf l:=by
 unfold Txt.startswith;rw[gg,aA,aA,Bool.eq_iff_iff];simp only[l67,List.drop_zero,Bool.and_eq_true,decide_eq_true_eq,l62];constructor
 ·rintro⟨_,h⟩;exact⟨l.drop y.length,by (conv=>lhs;arg 1;rw[<- h]);exact l56 _ _⟩
 ·rintro⟨t,rfl⟩;simp
def uK (l:List Nat)(h:∀c∈l,c < 128):Txt.lower (S l)=S (l.map lo1):=by
 rw[PyProof.Rows.lower_ascii (by simpa using h)];simp
def gX (y:List Nat):List Nat->Option Nat
 | []=>if y=[] then some 0 else none
 |x::r=>if y.isPrefixOf (x::r) then some 0 else (gX y r).map (· + 1)
def iL (l y:List Nat)(i:Nat):(i+y.length<=l.length/\(l.drop i).take y.length=y) ↔ i<=l.length/\y <+: l.drop i:=by
 constructor
 ·rintro⟨h1,h2⟩;exact⟨by omega,l83.mpr h2.symm⟩
 ·rintro⟨h1,h2⟩;have:=l83.mp h2;have hl:=h2.length_le;rw[l13] at hl;exact⟨by omega,this.symm⟩
theorem ia (y:List Nat):∀l:List Nat,gX y l=none ↔ ∀i,¬ (i<=l.length/\y <+: l.drop i)
 | []=>by
  unfold gX;split
  ·rename_i h;subst h;simp only[reduceCtorEq,false_iff];intro h;exact h 0 ⟨l5 _,by simp⟩
  ·rename_i h;simp only[true_iff];rintro i ⟨_,hp⟩;simp at hp;exact h hp
 |x::r=>by
  unfold gX;split
  ·rename_i h;simp only[reduceCtorEq,false_iff];intro q;exact q 0 ⟨l10 _,by simpa using l62.mp h⟩
  ·rename_i h;rw[Option.map_eq_none_iff,ia y r];constructor
   ·intro q i;cases i with
    |zero=>
     rintro⟨_,hp⟩;exact h (l62.mpr (by simpa using hp))
    |succ i=>
     rintro⟨h1,hp⟩;exact q i ⟨by simpa using h1,by simpa using hp⟩
   ·rintro q i ⟨h1,hp⟩;exact q (i+1) ⟨by simpa using h1,by simpa using hp⟩
theorem fi (y:List Nat):∀(l:List Nat) (i:Nat),gX y l=some i ↔ (i<=l.length/\y <+: l.drop i)/\∀k,k < i->¬ (k<=l.length/\y <+: l.drop k)
 | [],i=>by
  unfold gX;split
  ·rename_i h;subst h;simp only[Option.some.injEq,l25,Nat.le_zero_eq,List.nil_prefix,and_true];constructor
   ·rintro rfl;exact⟨rfl,λk hk=>by omega⟩
   ·rintro⟨h,_⟩;exact h.symm
  ·rename_i h;simp only[reduceCtorEq,false_iff];rintro⟨⟨_,hp⟩,_⟩;simp at hp;exact h hp
 |x::r,i=>by
  unfold gX;split
  ·rename_i h;have h0:=l62.mp h;simp only[Option.some.injEq];constructor
   ·rintro rfl;exact⟨⟨l10 _,by simpa using h0⟩,λk hk=>by omega⟩
   ·rintro⟨_,hn⟩;cases i with
    |zero=>rfl
    |succ i=>exact absurd ⟨l10 _,by simpa using h0⟩ (hn 0 nofun)
  ·rename_i h;have h0:¬ y <+: x::r:=λq=>h (l62.mpr q);rw[l44];constructor
   ·rintro⟨j,hj,rfl⟩;obtain⟨⟨h1,h2⟩,h3⟩:=(fi y r j).mp hj;refine⟨⟨by simpa using h1,by simpa using h2⟩,λk hk=>?_⟩;cases k with
    |zero=>rintro⟨_,hp⟩;exact h0 (by simpa using hp)
    |succ k=>rintro⟨q1,q2⟩;exact h3 k nofun ⟨by simpa using q1,by simpa using q2⟩
   ·rintro⟨⟨h1,h2⟩,h3⟩;cases i with
    |zero=>exact absurd (by simpa using h2) h0
    |succ i=>exact⟨i,(fi y r i).mpr ⟨⟨by simpa using h1,by simpa using h2⟩,λk hk q=>h3 (k+1) nofun ⟨by simpa using q.1,by simpa using q.2⟩⟩,rfl⟩
def wG (l y:List Nat):Txt.find (S l) (S y)=match gX y l with |some i=>(i:Int) |none => -1:=by
 rcases PyProof.Rows.find_whole (S l) (S y) with ⟨e,hn⟩ |⟨i,e,hi,hn⟩
 ·rw[e,(ia y l).mpr λi q=>hn i ((At_S l y i).mpr ((iL l y i).mpr q))]
 ·rw[e,(fi y l i).mpr ⟨(iL l y i).mp ((At_S l y i).mp hi),λk hk q=>hn k hk ((At_S l y k).mpr ((iL l y k).mpr q))⟩]
def c6 (l:List Nat)(c:Nat):(!(occurrences (S l) (S [c]) 0 (S l).length 1).isEmpty)=l.contains c:=by
 rw[found_one,Bool.eq_iff_iff];simp
def nB (x y z:Str):Txt.replace x y z=glued z (partsBetween x (occurrences x y 0 x.length (x.length+1)) y.length):=by
 unfold Txt.replace;split
 ·rename_i h;rcases Bool.or_eq_true_iff.mp h with h |h
  ·rw[List.isEmpty_iff.mp h];have e:partsBetween x [] y.length=[x]:=by
    rw[partsBetween_eq];show [strSub x 0 x.length]=[x];rw[sub_whole]
   rw[e];rfl
  ·simp only[Bool.and_eq_true,beq_iff_eq] at h;have e:z=y:=by
    obtain⟨a⟩:=y;obtain⟨b⟩:=z;simp only[Str.length,Array.size_eq_zero_iff] at h;rw[h.1,h.2]
   rw[e,glued_between_self]
 ·rfl
def unesc:List Nat->List Nat
 | []=>[]
 | [x]=>[x]
 |x::y::r=>if x=92/\y=124 then unesc (y::r) else x::unesc (y::r)
theorem dO:∀(p:List Nat) (r:List Nat),(∀k,¬ [92,124] <+: p.drop k)->(∀t,r≠124::t)->unesc (p++r)=p++unesc r
 | [],r,_,_=>rfl
 | [x],r,h,hr=>by
  cases r with
  |nil=>rfl
  |cons y t=>
   show unesc (x::y::t)=x::unesc (y::t);rw[unesc,if_neg];rintro⟨_,rfl⟩;exact hr t rfl
 |x::y::p,r,h,hr=>by
  have ih:=dO (y::p) r (λk=>by simpa using h (k+1)) hr;show unesc (x::y::(p++r))=_;rw[unesc,if_neg]
  ·show x::unesc ((y::p)++r)=_;rw[ih];rfl
  ·rintro⟨rfl,rfl⟩;exact h 0 ⟨p,rfl⟩
def jT (r:List Nat):unesc (124::r)=124::unesc r:=by
 cases r with
 |nil=>rfl
 |cons y t=>
  rw[unesc,if_neg];rintro⟨h,_⟩;cases h
theorem ib:∀ps:List (List Nat),(∀p∈ps,∀k,¬ [92,124] <+: p.drop k)->unesc (ao [92,124] ps)=ao [124] ps
 | [],_=>rfl
 | [p],h=>by
  have:=dO p [] (h p (by simp)) (by simp);simpa[ao,unesc] using this
 |p::q::r,h=>by
  have ih:=ib (q::r) λz hz=>h z (l7 _ hz);show unesc (p++[92,124]++ao [92,124] (q::r))=p++[124]++ao [124] (q::r);rw[l18,dO p _ (h p (by simp)) (by intro t e;cases e)];show p++unesc (92::124::ao [92,124] (q::r))=_;rw[unesc,if_pos ⟨rfl,rfl⟩,jT,ih];simp
def oX (x:Str):∀(cuts:List Nat) (a f:Nat),ChainG x (S [92,124]) x.length a cuts f->(∀k,f<=k->¬ At x (S [92,124]) x.length k)->a<=x.length →
  ∀p∈partsFrom x 2 a cuts,∀k,¬ [92,124] <+: p.cps.toList.drop k:=by
 have part:∀(a b:Nat),b<=x.length->(∀k,a<=k->k < b->¬ At x (S [92,124]) x.length k)->∀k,¬ [92,124] <+: (strSub x a b).cps.toList.drop k:=by
  intro a b hb hn k hp;rw[strSub_toList] at hp;have hl:=hp.length_le;rw[l13,l30,l13] at hl;have hx:x.cps.toList.length=x.length:=by simp[Str.length]
  have hl':[92,124].length=2:=rfl;rw[hl'] at hl;refine hn (a+k) nofun nofun ?_;have hx2:x=S x.cps.toList:=(S_of x).symm;rw[hx2,At_S,iL];refine⟨by omega,?_⟩;rw[List.drop_take] at hp;have:=hp.trans (List.take_prefix _ _);rwa [l27] at this
 intro cuts
 induction cuts with
 |nil=>
  intro a f h hn ha p hp;have e:f=a:=h;subst e;rw[l14.mp hp];exact part f x.length (l5 _) λk h1 _=>hn k h1
 |cons d r ih=>
  intro a f h hn ha p hp;rcases l9.mp hp with rfl |hp'
  ·exact part a d (by have:=h.2.1.1;omega) h.2.2.1
  ·refine ih (d+2) f h.2.2.2 hn ?_ p hp';have:=h.2.1.1;have e:(S [92,124]).length=2:=rfl;omega
def iM (l:List Nat):Txt.replace (S l) (S [92,124]) (S [124])=S (unesc l):=by
 obtain⟨f,hG,hn⟩:=occ_tight (S l) (S [92,124]) ∅;have hp:=oX (S l) _ 0 f hG hn (l10 _);have hg:=glued_between_self (S l) (S [92,124]) ((S l).length+1);rw[nB];rw[partsBetween_eq] at hg ⊢;have e2:(S [92,124]).length=2:=rfl;rw[e2] at hg ⊢;generalize partsFrom (S l) 2 0 (occurrences (S l) (S [92,124]) 0 (S l).length ((S l).length+1))=ps at hp hg ⊢;have eS:ps=(ps.map λp=>p.cps.toList).map S:=by
  rw[l19]
  conv=>lhs;rw[<- l61 ps]
  exact l50 λp _=>(S_of p).symm
 rw[eS,oW] at hg ⊢;have hl:=fH hg;rw[<- hl,ib];intro p hp' k;obtain⟨q,hq,rfl⟩:=l20.mp hp';exact hp q hq k
def bN (n:Nat)(d:Nat):Option Int->Nat
 |none=>d
 |some i=>(max 0 (min (if i < 0 then i+n else i) n)).toNat
def cutL (l:List Nat)(lo hi:Option Int):List Nat:=(l.drop (bN l.length 0 lo)).take (bN l.length l.length hi - bN l.length 0 lo)
def gh (l:List Nat):∀(n a:Nat),a+n<=l.length->((List.range n).map λ(k:Nat)=>a+k).filterMap (l[·]?)=(l.drop a).take n:=by
 intro n
 induction n with
 |zero=>intro a _;simp
 |succ n ih=>
  intro a h;rw[l63,l15,List.filterMap_append,ih a nofun,List.take_add_one];have:a+n < l.length:=by omega
  simp[List.getElem?_drop,this]
def oY (n:Nat)(d:Nat)(o:Option Int):(match o with |none=>(d:Int) |some i=>max 0 (min (if i < 0 then i+n else i) n))=(bN n d o:Int):=by
 cases o with
 |none=>rfl
 |some i=>exact(Int.toNat_of_nonneg (Int.le_max_left _ _)).symm
def oZ (n:Nat)(d:Nat)(o:Option Int)(h:d<=n):bN n d o<=n:=by
 cases o with
 |none=>exact h
 |some i=>exact Int.toNat_le.mpr (Int.max_le.mpr ⟨Int.natCast_nonneg n,Int.min_le_right _ _⟩)
def o0 (a b:Nat):sliceRange a b 1=(List.range (b - a)).map λ(k:Nat)=>a+k:=by
 unfold sliceRange;rw[if_pos (by decide:(1:Int) > 0),Int.add_sub_cancel,Int.ediv_one];have e:(if (a:Int) < b then (b:Int) - a else 0).toNat=b - a:=by
  split
  ·exact Int.toNat_sub b a
  ·rename_i h;rw[Nat.sub_eq_zero_of_le (Int.ofNat_le.mp (Int.not_lt.mp h))];rfl
 try dsimp only
 rw[e];refine congrArg (λf=>List.map f _) (funext λk=>?_);rw[Int.one_mul,<- Int.natCast_add];exact l36 _
def rS (n:Nat)(lo hi:Option Int):strSliceIndices lo hi 1 n=(List.range (bN n n hi - bN n 0 lo)).map λ(k:Nat)=>bN n 0 lo+k:=by
 have e1:(1:Int) > 0:=by decide
 rw[<- o0,<- oY,<- oY];unfold strSliceIndices;simp only[e1,if_true];rfl
def gi (l:List Nat)(lo hi:Option Int):Txt.slice (S l) lo hi=S (cutL l lo hi):=by
 obtain⟨a,b,ea,eb,ha,hb,e⟩:∃(a b:Nat),a=bN l.length 0 lo/\b=bN l.length l.length hi/\a<=l.length/\b<=l.length/\strSliceIndices lo hi 1 l.length=(List.range (b - a)).map λ(k:Nat)=>a+k:=
  ⟨_,_,rfl,rfl,oZ _ _ _ (l10 _),oZ _ _ _ (l5 _),rS _ _ _⟩
 unfold Txt.slice cutL;rw[aA,e,<- ea,<- eb];simp only[l0,l38];split
 ·rename_i h;simp only[beq_self_eq_true,Bool.true_and,beq_iff_eq] at h;have h1:a=0:=by omega
  have h2:b=l.length:=by omega
  rw[h1,h2];simp
 ·rename_i h;congr 1;have q:=gh l (b - a) a nofun;rw[<- q];congr 2;funext i;simp
def uL (x:Nat):List (List Nat)->List (List Nat)
 |h::t=>(x::h)::t
 | []=>[[x]]
def aq:Nat->List Nat->List (List Nat)
 |_,[]=>[[]]
 |prev,x::r=>if x=124/\prev≠92 then []::aq x r else uL x (aq x r)
def aQ (l:List Nat):List (List Nat):=aq 0 l
theorem cy:∀(l:List Nat) (p:Nat),aq p l≠[]
 | [],_=>by simp[aq]
 |x::r,p=>by
  unfold aq;split
  ·simp
  ·cases h:aq x r <;> simp[uL]
def bT (l:List Nat)(i:Nat):Bool:=l[i]? == some 124&&(i==0||l[i - 1]? != some 92)
def b8:Nat->Nat->List Nat->List Nat
 |_,_,[]=>[]
 |prev,k,x::r=>if x=124/\prev≠92 then k::b8 x (k+1) r else b8 x (k+1) r
def mx (pre r:List Nat)(x:Nat):bT (pre++x::r) pre.length=decide (x=124/\pre.getLastD 0≠92):=by
 unfold bT;have e1:(pre++x::r)[pre.length]? = some x:=by simp
 rw[e1];rcases l57 pre with rfl |⟨p,y,rfl⟩
 ·rw[Bool.eq_iff_iff];simp
 ·have e2:(p.concat y++x::r)[(p.concat y).length - 1]? = some y:=by
   rw[l68,l18];simp
  rw[e2,Bool.eq_iff_iff];simp
theorem gj:∀(suf pre:List Nat),((List.range' pre.length suf.length).filter (bT (pre++suf)))=b8 (pre.getLastD 0) pre.length suf
 | [],pre=>rfl
 |x::r,pre=>by
  have ih:=gj r (pre++[x]);rw[l6,l18] at ih;simp only[l4,l25,l67,l87] at ih;rw[l4,List.range'_succ,List.filter_cons,mx,b8];have e:(pre++[x]).getLastD 0=x:=by simp
  rw[e] at ih;by_cases h:x=124/\pre.getLastD 0≠92
  ·rw[if_pos h];simp only[h,and_self,decide_true,if_true,ne_eq,not_false_eq_true];have e124:=h.1;subst e124;rw[ih]
  ·rw[if_neg h,if_neg (by simpa using h),ih]
def jU (l:List Nat):(List.range l.length).filter (bT l)=b8 0 0 l:=by
 have:=gj l [];simpa[List.range_eq_range'] using this
def cj (l:List Nat):Nat->List Nat->List (List Nat)
 |_,[]=>[]
 |b,p::r=>(l.drop b).take (p - b)::cj l (p+1) r
theorem fj:∀(suf pre:List Nat) (b:Nat),b<=pre.length →
  ∃h t,aq (pre.getLastD 0) suf=h::t/\cj (pre++suf) b (b8 (pre.getLastD 0) pre.length suf++[(pre++suf).length])=(pre.drop b++h)::t
 | [],pre,b,hb=>by
  refine⟨[],[],rfl,?_⟩;show [((pre++[]).drop b).take ((pre++[]).length - b)]=_;rw[l17,l17,l39 (by rw[l13];exact l5 _)]
 |x::r,pre,b,hb=>by
  have e:(pre++[x]).getLastD 0=x:=by simp
  have el:(pre++[x]).length=pre.length+1:=by simp
  have ea:(pre++[x])++r=pre++x::r:=by simp
  rw[aq,b8];by_cases h:x=124/\pre.getLastD 0≠92
  ·obtain⟨h1,t1,q1,q2⟩:=fj r (pre++[x]) (pre.length+1) (by rw[el];exact l5 _);rw[e] at q1 q2;rw[el,ea] at q2;rw[if_pos h,if_pos h];refine⟨[],aq x r,rfl,?_⟩;rw[l40,cj,q2,q1];have d:(pre++[x]).drop (pre.length+1)=[]:=by rw[<- el];exact l45
   rw[d,l42,l17,l69 hb,l64 (by rw[l13];exact l5 _),l39 (by rw[l13];exact l5 _)]
  ·obtain⟨h1,t1,q1,q2⟩:=fj r (pre++[x]) b (by rw[el];omega);rw[e] at q1 q2;rw[el,ea] at q2;rw[if_neg h,if_neg h,q1];refine⟨x::h1,t1,rfl,?_⟩;rw[q2,l69 hb];simp
def kW (l:List Nat):cj l 0 ((List.range l.length).filter (bT l)++[l.length])=aQ l:=by
 obtain⟨h,t,q1,q2⟩:=fj l [] 0 (l5 _);rw[jU];have q2':cj l 0 (b8 0 0 l++[l.length])=h::t:=by simpa using q2
 rw[q2'];exact q1.symm
theorem ic:∀(c:List Nat) (x:Nat),unesc (c++[x])=if x=124/\c.getLastD 0=92 then (unesc c).dropLast++[124] else unesc c++[x]
 | [],x=>by simp[unesc]
 | [y],x=>by
  show (if y=92/\x=124 then unesc [x] else y::unesc [x])=_;by_cases h:y=92/\x=124
  ·rw[if_pos h,if_pos (by simpa using ⟨h.2,h.1⟩)];simp[unesc,h.2]
  ·rw[if_neg h,if_neg (by simpa using λa b=>h ⟨b,a⟩)];simp[unesc]
 |y::z::c,x=>by
  have ih:=ic (z::c) x;have e:(y::z::c).getLastD 0=(z::c).getLastD 0:=by simp
  rw[e];show unesc (y::z::(c++[x]))=_;rw[unesc,unesc];have ih':unesc (z::(c++[x]))=if x=124/\(z::c).getLastD 0=92 then (unesc (z::c)).dropLast++[124] else unesc (z::c)++[x]:=ih
  have ne:unesc (z::c)≠[]:=by
   cases c with
   |nil=>simp[unesc]
   |cons w c=>
    rw[unesc];split
    ·rename_i hh;have:w=124:=hh.2;subst this;rw[jT];simp
    ·simp
  by_cases h1:y=92/\z=124
  ·rw[if_pos h1,if_pos h1,ih']
  ·rw[if_neg h1,if_neg h1,ih'];by_cases h2:x=124/\(z::c).getLastD 0=92
   ·rw[if_pos h2,if_pos h2];rw[List.dropLast_cons_of_ne_nil ne];rfl
   ·rw[if_neg h2,if_neg h2];rfl
def iN (c:List Nat):unesc c=[] ↔ c=[]:=by
 constructor
 ·intro h;rcases l57 c with rfl |⟨p,y,rfl⟩
  ·rfl
  ·rw[l68,ic] at h;split at h <;> simp at h
 ·rintro rfl;rfl
theorem gk:∀c:List Nat,aG 32 (unesc c)=(aG 32 c).map unesc
 | []=>rfl
 | [x]=>by
  by_cases h:x=32
  ·subst h;simp[unesc,aG]
  ·simp[unesc,aG,h]
 |x::y::r=>by
  have ih:=gk (y::r);rw[unesc];by_cases h:x=92/\y=124
  ·rw[if_pos h,ih];obtain⟨rfl,rfl⟩:=h;obtain⟨p,t,e1,e2⟩:=aT 32 92 (124::r) ∅;obtain⟨p',t',e1',e2'⟩:=aT 32 124 r ∅;rw[e2,e1];rw[e2'] at e1;cases e1;simp[unesc]
  ·rw[if_neg h];by_cases hx:x=32
   ·subst hx;rw[bi,bi,ih];simp[unesc]
   ·obtain⟨p,t,e1,e2⟩:=aT 32 x (y::r) hx;obtain⟨p',t',e1',e2'⟩:=aT 32 x (unesc (y::r)) hx;rw[e2',e2];rw[ih,e1] at e1';simp only[l12,List.cons.injEq] at e1' ⊢;obtain⟨a,b⟩:=e1';refine⟨?_,b.symm⟩;rw[<- a];by_cases hy:y=32
    ·subst hy;rw[bi] at e1;cases e1;simp[unesc]
    ·obtain⟨p2,t2,f1,f2⟩:=aT 32 y r hy;rw[f2] at e1;cases e1;rw[unesc,if_neg h]
theorem dz:∀(p r:List Nat),unesc (p++32::r)=unesc p++32::unesc r
 | [],r=>by
  show unesc (32::r)=32::unesc r;cases r with
  |nil=>rfl
  |cons y t=>rw[unesc,if_neg (λh=>by cases h.1)]
 | [x],r=>by
  have q:unesc (x::32::r)=x::unesc (32::r):=by
   rw[unesc,if_neg (λh=>by cases h.2)]
  show unesc (x::32::r)=_;rw[q];have:=dz [] r;simp only[l42] at this;rw[this];simp[unesc]
 |x::y::p,r=>by
  have ih:=dz (y::p) r;show unesc (x::y::(p++32::r))=_;rw[unesc,unesc];have ih':unesc (y::(p++32::r))=unesc (y::p)++32::unesc r:=ih;by_cases h:x=92/\y=124
  ·rw[if_pos h,if_pos h,ih']
  ·rw[if_neg h,if_neg h,ih'];rfl
theorem ie:∀ws:List (List Nat),ao [32] (ws.map unesc)=unesc (ao [32] ws)
 | []=>rfl
 | [p]=>rfl
 |p::q::r=>by
  have ih:=ie (q::r);show unesc p++[32]++ao [32] ((q::r).map unesc)=unesc (p++[32]++ao [32] (q::r));rw[ih,l18 p,l87,dz];simp
def kX (c:List Nat):aN (unesc c)=(aN c).map unesc:=by
 unfold aN;rw[gk,List.filter_map];congr 1;apply List.filter_congr;intro w _;have:=iN w;by_cases h:w=[]
 ·subst h;simp[unesc]
 ·have h2:unesc w≠[]:=λq=>h (this.mp q);simp[h,h2]
def nC (c:List Nat):bR (unesc c)=unesc (bR c):=by
 unfold bR;rw[kX,ie]
def cP (l:List Nat):List (List Nat):=(aQ l).map λc=>bR (unesc c)
def o5 (l:List Nat):cP l=(aQ l).map λc=>unesc (bR c):=by
 unfold cP;exact l50 λc _=>nC c
theorem o6 {p:Nat->Bool}:∀{l:List Nat} {c:Nat},c∈l.takeWhile p->p c=true
 | [],_,h=>by simp at h
 |x::r,c,h=>by
  rw[List.takeWhile_cons] at h;split at h
  ·rename_i hx;rcases l9.mp h with rfl |h
   ·exact hx
   ·exact o6 h
  ·simp at h
theorem kY {p:Nat->Bool}:∀{l:List Nat} {y:Nat} {q:List Nat},l.dropWhile p=y::q->p y=false
 | [],_,_,h=>by simp at h
 |x::r,y,q,h=>by
  rw[List.dropWhile_cons] at h;split at h
  ·exact kY h
  ·rename_i hx;cases h;simpa using hx
def aR (l:List Nat):List Nat:=bS ([32]:List Nat).contains l
def fA (p:Nat->Bool)(l:List Nat):∃t,l=bS p l++t/\(∀c∈t,p c=true)/\(bS p l=[] ∨ ∃q y,bS p l=q++[y]/\p y=false):=by
 refine⟨(l.reverse.takeWhile p).reverse,?_,?_,?_⟩
 ·unfold bS;rw[<- l81,l54,List.reverse_reverse]
 ·intro c hc;rw[List.mem_reverse] at hc;exact o6 hc
 ·unfold bS;cases h:l.reverse.dropWhile p with
  |nil=>exact .inl rfl
  |cons y q=>
   refine .inr ⟨q.reverse,y,by simp,?_⟩;exact kY h
def cz (p:Nat->Bool)(l:List Nat):bS p l <+: l:=by
 obtain⟨t,e,_⟩:=fA p l;exact⟨t,e.symm⟩
def o7 (l:List Nat):aR l=l.take (aR l).length:=by
 obtain⟨t,e⟩:=cz ([32]:List Nat).contains l
 conv=>rhs;arg 2;rw[<- e]
 exact(List.take_left' rfl).symm
def my (l:List Nat):(aR l).length<=l.length:=(cz _ l).length_le
def jV (l:List Nat):aR l=[] ↔ ∀c∈l,c=32:=by
 obtain⟨t,e,ht,hh⟩:=fA ([32]:List Nat).contains l;constructor
 ·intro h c hc;have:l=t:=by rw[e];show aR l++t=t;rw[h];rfl
  rw[this] at hc;simpa using ht c hc
 ·intro h;rcases hh with hh |⟨q,y,e2,hy⟩
  ·exact hh
  ·have:y∈l:=by rw[e,e2];simp
   rw[h y this] at hy;simp at hy
def nameSigns:List Nat:=[97,98,99,100,101,102,103,104,105,106,107,108,109,110,111,112,113,114,115,116,117,118,119,120,121,122,65,66,67,68,69,70,71,72,73,74,75,76,77,78,79,80,81,82,83,84,85,86,87,88,89,90,48,49,50,51,52,53,54,55,56,57]
def aH (l:List Nat):Bool:=decide (1<=l.length)&&decide (l.length<=12)&&l.all nameSigns.contains
def bb (l:List Nat):List Nat:=l.map lo1
inductive Srt where
 |empty |fence
 |quote (r:List Nat)
 |heading (lv:Nat) (w:List Nat)
 |cells (ts:List (List Nat))
 |note (n w:List Nat)
 |name (n t:List Nat)
 |item (far:Nat) (sg:Nat) (w:List Nat)
 |plain (far:Nat) (w:List Nat)
def gY (l:List Nat):List Nat:=if [62,32].isPrefixOf l then l.drop 2 else l.drop 1
def dr (b:List Nat):Nat:=(b.takeWhile ([61]:List Nat).contains).length
def cV (b:List Nat):Nat:=if dr b > 3 ∨ ¬ [32].isPrefixOf (b.drop (dr b)) then 0 else dr b
def bf (b:List Nat):Bool:=decide (2<=b.length)&&[124].isPrefixOf b&&bT b (b.length - 1)
def defC (b:List Nat):Option Srt:=
 match gX [93,58,32] b with
 |none=>none
 |some p=>
  if ¬ [91].isPrefixOf b then none
  else if [91,94].isPrefixOf b/\aH ((b.drop 2).take (p - 2)) then some (.note (bb ((b.drop 2).take (p - 2))) (ao [32] (aN (b.drop (p+3)))))
  else if aH ((b.drop 1).take (p - 1))/\(aN (b.drop (p+3))).length=1 then some (.name (bb ((b.drop 1).take (p - 1))) ((aN (b.drop (p+3))).headD []))
  else none
def iO (b:List Nat):Srt:=
 let body:=b.dropWhile ([32]:List Nat).contains
 if [45,32].isPrefixOf body ∨ [43,32].isPrefixOf body then .item (b.length - body.length) (body.headD 0) (bR (body.drop 2)) else .plain (b.length - body.length) (bR body)
def aL (l:List Nat):Srt:=
 let b:=aR l
 if b=[] then .empty
 else if [62].isPrefixOf b then .quote (gY l)
 else if b=[126,126,126] then .fence
 else if cV b > 0 then .heading (cV b) (bR (b.drop (cV b)))
 else if bf b then .cells (cP ((b.drop 1).take (b.length - 2)))
 else match defC b with
  |some d=>d
  |none=>iO b
def pre1 (x:Nat)(l:List Nat):[x].isPrefixOf l=true ↔ l[0]? = some x:=by
 cases l with
 |nil=>simp
 |cons y r=>simp;exact eq_comm
def pre2 (x y:Nat)(l:List Nat):[x,y].isPrefixOf l=true ↔ l[0]? = some x/\l[1]? = some y:=by
 cases l with
 |nil=>simp
 |cons a r=>
  cases r with
  |nil=>simp
  |cons b r=>
   simp;constructor
   ·rintro⟨rfl,rfl⟩;exact⟨rfl,rfl⟩
   ·rintro⟨rfl,rfl⟩;exact⟨rfl,rfl⟩
theorem jW (c:Nat):∀l:List Nat,((aG c l).map List.length).sum+(aG c l).length=l.length+1
 | []=>by simp[aG]
 |x::r=>by
  have ih:=jW c r;by_cases hx:x=c
  ·subst hx;rw[bi];simp only[l12,l25,l24,l4];omega
  ·obtain⟨q,t,e1,e2⟩:=aT c x r hx;rw[e2];rw[e1] at ih;simp only[l12,l4,l24] at ih ⊢;omega
theorem ig (p:List Nat->Bool):∀ps:List (List Nat),((ps.filter p).map List.length).sum+(ps.filter p).length<=(ps.map List.length).sum+ps.length
 | []=>by simp
 |q::r=>by
  have ih:=ig p r;rw[List.filter_cons];split
  ·simp only[l12,l24,l4];omega
  ·simp only[l12,l24,l4];omega
def gm (l:List Nat):((aN l).map List.length).sum+(aN l).length<=l.length+1:=by
 have h1:=jW 32 l;have h2:=ig (λw=>w≠[]) (aG 32 l);unfold aN;omega
theorem glue_len:∀ps:List (List Nat),(ao [32] ps).length+1<=(ps.map List.length).sum+ps.length+1
 | []=>by simp[ao]
 | [p]=>by simp[ao]
 |p::q::r=>by
  have ih:=glue_len (q::r);show (p++[32]++ao [32] (q::r)).length+1<=_;simp only[l6,l12,l24,l4,l25] at ih ⊢;omega
theorem glue_len':∀ps:List (List Nat),ps≠[]->(ao [32] ps).length+1=(ps.map List.length).sum+ps.length
 | [],h=>absurd rfl h
 | [p],_=>by simp[ao]
 |p::q::r,_=>by
  have ih:=glue_len' (q::r) (by simp);show (p++[32]++ao [32] (q::r)).length+1=_;simp only[l6,l12,l24,l4,l25] at ih ⊢;omega
def iP (l:List Nat):(bR l).length<=l.length:=by
 unfold bR;cases h:aN l with
 |nil=>simp[ao]
 |cons p r=>
  have h1:=glue_len' (p::r) (by simp);have h2:=gm l;rw[h] at h2;omega
def gn (ps:List (List Nat)):((ps.map S).map PySem.Str.length)=ps.map List.length:=by
 rw[l19];exact l50 λp _=>aA p
theorem jX:∀c:List Nat,(unesc c).length<=c.length
 | []=>by simp[unesc]
 | [x]=>by simp[unesc]
 |x::y::r=>by
  have ih:=jX (y::r);rw[unesc];split
  ·simp only[l4] at ih ⊢;omega
  ·simp only[l4] at ih ⊢;omega
theorem kZ:∀(l:List Nat) (p:Nat),((aq p l).map List.length).sum+(aq p l).length=l.length+1
 | [],_=>by simp[aq]
 |x::r,p=>by
  have ih:=kZ r x;rw[aq];split
  ·simp only[l12,l25,l24,l4];omega
  ·cases h:aq x r with
   |nil=>exact absurd h (cy r x)
   |cons a b=>
    rw[h] at ih;simp only[uL,l12,l4,l24] at ih ⊢;omega
def jY (l:List Nat):(aQ l).length<=l.length+1:=by have:=kZ l 0;unfold aQ;omega
def Asc (l:List Nat):Prop:=∀c∈l,c < 128
def Asc.sub {a b:List Nat}(h:Asc b)(s:∀c∈a,c∈b):Asc a:=λc hc=>h c (s c hc)
def Asc.drop {l:List Nat}(h:Asc l)(n:Nat):Asc (l.drop n):=h.sub λc hc=>l58 hc
def Asc.take {l:List Nat}(h:Asc l)(n:Nat):Asc (l.take n):=h.sub λc hc=>l70 hc
def Asc.bare {l:List Nat}(h:Asc l):Asc (aR l):=h.sub λc hc=>(cz _ l).subset hc
def Asc.dw {l:List Nat}(h:Asc l)(p:Nat->Bool):Asc (l.dropWhile p):=h.sub λc hc=>(List.dropWhile_sublist p).subset hc
theorem dR (c:Nat):∀(l p:List Nat) (x:Nat),p∈aG c l->x∈p->x∈l
 | [],p,x,hp,hx=>by simp[aG] at hp;subst hp;simp at hx
 |y::r,p,x,hp,hx=>by
  by_cases hy:y=c
  ·subst hy;rw[bi] at hp;rcases l9.mp hp with rfl |hp
   ·simp at hx
   ·exact l7 _ (dR y r p x hp hx)
  ·obtain⟨q,t,e1,e2⟩:=aT c y r hy;rw[e2] at hp;rcases l9.mp hp with rfl |hp
   ·rcases l9.mp hx with rfl |hx
    ·simp
    ·exact l7 _ (dR c r q x (by rw[e1];simp) hx)
   ·exact l7 _ (dR c r p x (by rw[e1];exact l7 _ hp) hx)
def Asc.word {l w:List Nat}(h:Asc l)(hw:w∈aN l):Asc w:=h.sub λc hc=>dR 32 l w c (l65.mp hw).1 hc
theorem mz (g:List Nat):∀(ps:List (List Nat)) (x:Nat),x∈ao g ps->x∈g ∨ ∃p∈ps,x∈p
 | [],x,h=>by simp[ao] at h
 | [p],x,h => .inr ⟨p,by simp,h⟩
 |p::q::r,x,h=>by
  rw[bj g p (q::r) (by simp)] at h;rcases l21.mp h with h |h
  ·rcases l21.mp h with h |h
   ·exact .inr ⟨p,by simp,h⟩
   ·exact .inl h
  ·rcases mz g (q::r) x h with h |⟨p',hp,hx⟩
   ·exact .inl h
   ·exact .inr ⟨p',l7 _ hp,hx⟩
def Asc.glue {ws:List (List Nat)}(h:∀w∈ws,Asc w):Asc (ao [32] ws):=λc hc=>by
 rcases mz [32] ws c hc with h1 |⟨p,hp,hx⟩
 ·have:c=32:=by simpa using h1
  omega
 ·exact h p hp c hx
def Asc.tidy {l:List Nat}(h:Asc l):Asc (bR l):=Asc.glue λw hw=>h.word hw
theorem gp:∀(c:List Nat) (x:Nat),x∈unesc c->x∈c
 | [],x,h=>h
 | [y],x,h=>h
 |y::z::r,x,h=>by
  rw[unesc] at h;split at h
  ·exact l7 _ (gp (z::r) x h)
  ·rcases l9.mp h with rfl |h
   ·simp
   ·exact l7 _ (gp (z::r) x h)
def Asc.unesc {l:List Nat}(h:Asc l):Asc (unesc l):=h.sub λc hc=>gp l c hc
theorem iQ:∀(l:List Nat) (q:Nat) (p:List Nat) (x:Nat),p∈aq q l->x∈p->x∈l
 | [],_,p,x,hp,hx=>by simp[aq] at hp;subst hp;simp at hx
 |y::r,q,p,x,hp,hx=>by
  rw[aq] at hp;split at hp
  ·rcases l9.mp hp with rfl |hp
   ·simp at hx
   ·exact l7 _ (iQ r y p x hp hx)
  ·cases h:aq y r with
   |nil=>exact absurd h (cy r y)
   |cons a b=>
    rw[h] at hp;rcases l9.mp hp with rfl |hp
    ·rcases l9.mp hx with rfl |hx
     ·simp
     ·exact l7 _ (iQ r y a x (by rw[h];simp) hx)
    ·exact l7 _ (iQ r y p x (by rw[h];exact l7 _ hp) hx)
def Asc.cells {l t:List Nat}(h:Asc l)(ht:t∈cP l):Asc t:=by
 obtain⟨c,hc,rfl⟩:=l20.mp ht;exact Asc.tidy (Asc.unesc (h.sub λx hx=>iQ l 0 c x hc hx))
def wH (c:Nat)(h:c < 128):lo1 c < 128:=by unfold lo1;split <;> omega
def Asc.small {l:List Nat}(h:Asc l):Asc (bb l):=λc hc=>by
 obtain⟨d,hd,rfl⟩:=l20.mp hc;exact wH d (h d hd)
def uM {l:List Nat}(h:Asc l):PySem.PyData.strOk (S l)=true:=by
 unfold PySem.PyData.strOk;rw[Array.all_eq_true_iff_forall_mem];intro c hc;have:c∈l:=by simpa using hc
 have:=h c this;exact decide_eq_true nofun
theorem gq (l:List Nat):∀(ps:List Nat) (b:Nat),(cj l b ps).length=ps.length
 | [],_=>rfl
 |p::r,b=>by rw[cj,l4,gq l r (p+1),l4]
def dj (b:Nat)(ps:List Nat)(i:Nat):Nat:=if i=0 then b else ps.getD (i - 1) 0+1
theorem gr (l:List Nat):∀(ps:List Nat) (b i p:Nat),ps[i]? = some p->(cj l b ps)[i]? = some ((l.drop (dj b ps i)).take (p - dj b ps i))
 | [],_,_,_,h=>by simp at h
 |q::r,b,0,p,h=>by
  simp at h;subst h;rfl
 |q::r,b,i+1,p,h=>by
  have ih:=gr l r (q+1) i p (by simpa using h);rw[cj,List.getElem?_cons_succ,ih];have e:dj (q+1) r i=dj b (q::r) (i+1):=by
   cases i with
   |zero=>simp[dj]
   |succ i=>simp[dj]
  rw[e]
end Lm
set_option maxHeartbeats 8000000
namespace Lw
open PySem L2 Lm
structure Tx (mg:Str->Option Value):Prop where
 u10:mg "len"=none
 q10:mg "range"=none
 q11:mg "isinstance"=none
 g12:mg "all"=none
 g11:mg "str"=none
 q22:mg "bool"=none
 g13:mg "tuple"=none
 z13:mg "enumerate"=none
 q15:mg "int"=none
 g10:mg "list"=none
 z12:∃t,mg "NAME_SIGNS"=some (.str (S nameSigns) t)
 u12:∃t,mg "LONGEST_NAME"=some (.int 12 t)
 q12:∃t,mg "FENCE"=some (.str (S [126,126,126]) t)
 u16:∃t,mg "DEEPEST_HEADING"=some (.int 3 t)
 u14:∃t,mg "NAME_END"=some (.str (S [93,58,32]) t)
def big {n:Nat}(h:n<=1000000):n<=sizeLine:=by rw[sizeLine_eq];omega
def bg0:(0:Nat)<=sizeLine:=big ∅
def bg1:(1:Nat)<=sizeLine:=big ∅
def bg2:(2:Nat)<=sizeLine:=big ∅
def bg3:(3:Nat)<=sizeLine:=big ∅
def bg4:(4:Nat)<=sizeLine:=big ∅
def bg5:(5:Nat)<=sizeLine:=big ∅
def bg6:(6:Nat)<=sizeLine:=big ∅
def bg8:(8:Nat)<=sizeLine:=big ∅
def bg12:(12:Nat)<=sizeLine:=big ∅
def bigS {l:List Nat}(h:l.length<=1000000):(S l).length<=sizeLine:=by rw[aA];exact big h
def at_S {l:List Nat}{i:Nat}(h:i < l.length):atI (S l).cps.toList (i:Int)=some (l.getD i 0):=by
 rw[b7];refine am ?_;rw[l23,List.getElem?_eq_getElem h];simp
def getD_some {l:List Nat}{i:Nat}(h:i < l.length):l[i]? = some (l.getD i 0):=by
 rw[l23,List.getElem?_eq_getElem h];simp
section
variable {a b:List Nat}{x y:V}
def neT (h:(!decide (x=y))=true)(ex:x=V.str (S a))(ey:y=V.str (S b)):a≠b:=by
 subst ex ey;intro e;subst e;simp at h
def neF (h:¬ (!decide (x=y))=true)(ex:x=V.str (S a))(ey:y=V.str (S b)):a=b:=by
 subst ex ey;have h2:V.str (S a)=V.str (S b):=by simpa using h
 exact fH (V.str.inj h2)
def eqT (h:decide (x=y)=true)(ex:x=V.str (S a))(ey:y=V.str (S b)):a=b:=by
 subst ex ey;exact fH (V.str.inj (of_decide_eq_true h))
def eqF (h:¬ decide (x=y)=true)(ex:x=V.str (S a))(ey:y=V.str (S b)):a≠b:=by
 subst ex ey;intro e;subst e;simp at h
end
section
variable {P:Program}{w:World}{K:Frag}{mg:Str->Option Value}{base:Heap}
inductive spBar (vs:List V)(H:Hp)(Q:VK)(u3:XK):Prop
 |mk (l:List Nat)(i:Nat)(_:vs=[.str (S l), .int i])(_:l.length<=1000000)(_:i < l.length)(_:Q (.bl (bT l i)) H)
inductive spWords (vs:List V)(H:Hp)(Q:VK)(u3:XK):Prop
 |mk (l:List Nat)(_:vs=[.str (S l)])(_:l.length<=1000000)(_:∀r H',Same H H'->H r=none->H' r=some (.lst ((aN l).map λw=>V.str (S w)))->Q (.ref r) H')
inductive spTidy (vs:List V)(H:Hp)(Q:VK)(u3:XK):Prop
 |mk (l:List Nat)(_:vs=[.str (S l)])(_:l.length<=1000000)(_:∀H',Same H H'->Q (.str (S (bR l))) H')
def ck (ws:List (List Nat)):(ws.map λw=>V.str (S w))=(ws.map S).map V.str:=by rw[l19];rfl
def jZ (l:List Nat)(h:l.length<=1000000):(((aN l).map S).map (·.length)).sum+((aN l).map S).length * (S [32]).length<=sizeLine:=by
 have h1:=gm l;have h2:sizeLine=16777216:=sizeLine_eq;have h3:(((aN l).map S).map (·.length))=(aN l).map List.length:=gn _;rw[h3,l0];have h4:(S [32]).length=1:=rfl;rw[h4];omega
end
abbrev vS (l:List Nat):V := .str (S l)
section
variable {P:Program}{w:World}{K:Frag}{mg:Str->Option Value}{base:Heap}
inductive spCells (vs:List V)(H:Hp)(Q:VK)(u3:XK):Prop
 |mk (l:List Nat)(_:vs=[vS l])(_:l.length<=1000000)(_:∀r H',Same H H'->H r=none->H' r=some (.lst ((cP l).map vS))->Q (.ref r) H')
def j3 {α β:Type}(f:α->β)(xs:List α)(i:Nat)(x:α)(h:xs[i]? = some x):(xs.take i).map f++[f x]=(xs.take (i+1)).map f:=by
 rw[List.take_succ,h];simp
def nE {ps:List Nat}{i p:Nat}(h:ps[i]? = some p):dj 0 ps (i+1)=p+1:=by
 unfold dj;rw[if_neg nofun,l71,l23,h];rfl
def mD (n d b:Nat)(hb:b<=n):bN n d (some (b:Int))=b:=by
 unfold bN;simp only[];omega
def uN (l:List Nat)(b p:Nat)(hp:p<=l.length)(hb:b<=l.length):cutL l (some (b:Int)) (some (p:Int))=(l.drop b).take (p - b):=by
 unfold cutL;rw[mD _ _ _ hp,mD _ _ _ hb]
def pInt (p:Nat->Bool):V->Bool
 | .int i=>p i.toNat
 |_=>false
def nF (p:Nat->Bool)(n:Nat):((((List.range n).map λ(i:Nat)=>V.int (0+(i:Int))).filter (pInt p)).map id)=((List.range n).filter p).map λ(i:Nat)=>V.int i:=by
 rw[l61,List.filter_map];have:(List.range n).filter (pInt p ∘ λ(i:Nat)=>V.int (0+(i:Int)))=(List.range n).filter p:=by
  refine List.filter_congr λi _=>?_;show p (0+(i:Int)).toNat=p i;congr 1;omega
 rw[this];refine l50 λi _=>?_;rw[Int.zero_add]
def rT (l:List Nat):((List.range l.length).filter (bT l)).length<=l.length:=by
 have:=List.length_filter_le (bT l) (List.range l.length);rwa [l38] at this
def rV {l:List Nat}{i p:Nat}(hp:((List.range l.length).filter (bT l)++[l.length])[i]? = some p):dj 0 ((List.range l.length).filter (bT l)++[l.length]) i<=l.length:=by
 unfold dj;split
 ·exact l10 _
 ·rename_i h0;have hi:=(List.getElem?_eq_some_iff.mp hp).1;rw[l6,List.length_singleton] at hi;have h1:i - 1 < ((List.range l.length).filter (bT l)).length:=by omega
  rw[l23,List.getElem?_append_left h1,List.getElem?_eq_getElem h1];have:=l33.mp (l65.mp (l43 h1)).1;show ((List.range l.length).filter (bT l))[i - 1]+1<=l.length;omega
end
def rW (l:List Nat)(b:Nat):cutL l (some (b:Int)) none=l.drop b:=by
 unfold cutL;have e:bN l.length 0 (some (b:Int))=min b l.length:=by unfold bN;simp only[];omega
 rw[e];show (l.drop (min b l.length)).take (l.length - min b l.length)=l.drop b;rcases Nat.le_total b l.length with h |h
 ·rw[l51 h,l39 (by rw[l13];exact l5 _)]
 ·rw[l72 h,l59,List.take_zero,l88 h]
def gt (l:List Nat)(b p:Nat):cutL l (some (b:Int)) (some (p:Int))=(l.drop b).take (p - b):=by
 unfold cutL;have e:bN l.length 0 (some (b:Int))=min b l.length:=by unfold bN;simp only[];omega
 have e2:bN l.length l.length (some (p:Int))=min p l.length:=by unfold bN;simp only[];omega
 rw[e,e2];rcases Nat.le_total b l.length with h |h
 ·rw[l51 h];rcases Nat.le_total p l.length with h2 |h2
  ·rw[l51 h2]
  ·rw[l72 h2,l39 (by rw[l13];exact l5 _),l39 (by rw[l13];omega)]
 ·rw[l72 h,l88 h,l88 (l5 _)];simp
def o8 (l:List Nat)(h:2<=l.length):cutL l (some 1) (some (-1))=(l.drop 1).take (l.length - 2):=by
 unfold cutL;have e:bN l.length 0 (some 1)=1:=by unfold bN;simp only[];omega
 have e2:bN l.length l.length (some (-1))=l.length - 1:=by unfold bN;simp only[];omega
 rw[e,e2];rfl
def dF (l:List Nat)(b:Nat):Txt.slice (S l) (some (b:Int)) none=S (l.drop b):=by rw[gi,rW]
section
variable {P:Program}{w:World}{K:Frag}{mg:Str->Option Value}{base:Heap}
inductive spName (vs:List V)(H:Hp)(Q:VK)(u3:XK):Prop
 |mk (l:List Nat)(_:vs=[vS l])(_:l.length<=1000000)(_:∀H',Same H H'->Q (.bl (aH l)) H')
def o9:V->V
 | .str x => .bl (x.cps.toList.all nameSigns.contains)
 |_ => .bl false
inductive spNameOf (vs:List V)(H:Hp)(Q:VK)(u3:XK):Prop
 |mk (l:List Nat)(_:vs=[vS l])(_:l.length<=1000000)(_:aH l=true)(_:∀H',Same H H'->Q (vS (bb l)) H')
def rX {l:List Nat}(h:aH l=true):Asc l:=by
 intro c hc;unfold aH at h;rw[Bool.and_eq_true] at h;have:=l22.mp h.2 c hc;have key:∀x∈nameSigns,x < 128:=by decide
 exact key c (by simpa using this)
inductive spRest (vs:List V)(H:Hp)(Q:VK)(u3:XK):Prop
 |mk (l:List Nat)(_:vs=[vS l])(_:l.length<=1000000)(_:Q (vS (gY l)) H)
inductive spHead (vs:List V)(H:Hp)(Q:VK)(u3:XK):Prop
 |mk (l:List Nat)(_:vs=[vS l])(_:l.length<=1000000)(_:Q (.int (cV l)) H)
def dS (p:Nat->Bool)(l:List Nat):(l.takeWhile p).length+(l.dropWhile p).length=l.length:=by
 rw[<- l6,l54]
inductive spIsC (vs:List V)(H:Hp)(Q:VK)(u3:XK):Prop
 |mk (l:List Nat)(_:vs=[vS l])(_:l.length<=1000000)(_:Q (.bl (bf l)) H)
end
def tG (l:List Nat)(b p:Nat):Txt.slice (S l) (some (b:Int)) (some (p:Int))=S ((l.drop b).take (p - b)):=by rw[gi,gt]
def mE:List Nat:=[101,109,112,116,121]
def cn:List Nat:=[113,117,111,116,101]
def cq:List Nat:=[102,101,110,99,101]
def bF:List Nat:=[104,101,97,100,105,110,103]
def fD:List Nat:=[99,101,108,108,115]
def j4:List Nat:=[110,111,116,101]
def iR:List Nat:=[110,97,109,101]
def k0:List Nat:=[105,116,101,109]
def gu:List Nat:=[112,108,97,105,110]
def SrtAt (K:Frag)(H:Hp)(p:Addr):Srt->Prop
 | .empty=>H p=some (.tup [vS mE])
 | .fence=>H p=some (.tup [vS cq])
 | .quote r=>H p=some (.tup [vS cn,vS r])
 | .heading lv w=>H p=some (.tup [vS bF, .int lv,vS w])
 | .cells ts=>∃q,H p=some (.tup [vS fD, .ref q])/\H q=some (.lst (ts.map vS))
 | .note n w=>H p=some (.tup [vS j4,vS n,vS w])
 | .name n t=>H p=some (.tup [vS iR,vS n,vS t])
 | .item far sg w=>H p=some (.tup [vS k0, .int far,vS [sg],vS w])
 | .plain far w=>H p=some (.tup [vS gu, .int far,vS w])
def DefV (K:Frag)(H:Hp)(v:V):Option Srt->Prop
 |none=>v = .non
 |some d=>∃p,v = .ref p/\SrtAt K H p d
def Tells (t:TT)(σ:St)(H:Hp)(a:Bool):Prop:=∀R:Bool->Hp->Prop,(∀H',Same H H'->R a H')->t σ H R
def dk {t u:TT}{σ:St}{H:Hp}(a b:Bool)(ht:Tells t σ H a)(hu:a=true->∀H1,Same H H1->Tells u σ H1 b):Tells (tAnd t u) σ H (a&&b):=by
 intro R k;refine ht _ λH1 s1=>?_;cases a with
 |true=>exact hu rfl H1 s1 R λH' s'=>k H' (s1.trans s')
 |false=>exact k H1 s1
def t_or {t u:TT}{σ:St}{H:Hp}(a b:Bool)(ht:Tells t σ H a)(hu:a=false->∀H1,Same H H1->Tells u σ H1 b):Tells (tOr t u) σ H (a||b):=by
 intro R k;refine ht _ λH1 s1=>?_;cases a with
 |false=>exact hu rfl H1 s1 R λH' s'=>k H' (s1.trans s')
 |true=>exact k H1 s1
def j6 {t:TT}{σ:St}{H:Hp}(a:Bool)(ht:Tells t σ H a):Tells (tNot t) σ H (!a):=λR k=>ht _ λH1 s1=>k H1 s1
def s_if {t:TT}{f g:TS}{D:Ends}{σ:St}{H:Hp}(a:Bool)(ht:Tells t σ H a)(k1:∀H',Same H H'->a=true->f D σ H')(k2:∀H',Same H H'->a=false->g D σ H'):tIfS t f g D σ H:=
 ht _ λH' s'=>ite2 (k1 H' s') λc=>k2 H' s' (Bool.eq_false_iff.mpr c)
def dU {K:Frag}{te:TE}{σ:St}{H:Hp}{y:Str}(l z:List Nat)(hl:l.length<=1000000)(ey:y=S z)(he:∀R':VK,R' (vS l) H->te σ H R'):
  Tells (tB (tBM K "str" (rS2 λz y => .bl (Txt.startswith z y)) te (tCons (tC (.str y)) tNil))) σ H (z.isPrefixOf l):=by
 intro R k;refine he _ ⟨rfl,_,_,rfl,rfl,bigS hl,_,rfl,?_⟩;rw[ey,fK];exact k H (Same.refl H)
section
variable {P:Program}{w:World}{K:Frag}{mg:Str->Option Value}{base:Heap}
inductive spDef (K:Frag)(vs:List V)(H:Hp)(Q:VK)(u3:XK):Prop
 |mk (l:List Nat)(_:vs=[vS l])(_:l.length<=1000000)(_:∀v H',Same H H'->DefV K H' v (defC l)->Q v H')
inductive spItem (K:Frag)(vs:List V)(H:Hp)(Q:VK)(u3:XK):Prop
 |mk (l:List Nat)(_:vs=[vS l])(_:l.length<=1000000)(_:∀p H',Same H H'->SrtAt K H' p (iO l)->Q (.ref p) H')
inductive spSort (K:Frag)(vs:List V)(H:Hp)(Q:VK)(u3:XK):Prop
 |mk (l:List Nat)(_:vs=[vS l])(_:l.length<=1000000)(_:∀p H',Same H H'->SrtAt K H' p (aL l)->Q (.ref p) H')
def t_eq {te:TE}{σ:St}{H:Hp}{y:Str}(a b:List Nat)(ey:y=S b)(he:∀R':VK,R' (vS a) H->te σ H R'):Tells (tTest (tOp rEq te (tC (.str y)))) σ H (decide (a=b)):=by
 intro R k;refine he _ ⟨rfl,_,rfl,?_⟩;have:decide (vS a=V.str y)=decide (a=b):=by
  rw[ey];exact decide_eq_decide.mpr ⟨λh=>fH (V.str.inj h),λh=>by rw[h]⟩
 rw[this];exact k H (Same.refl H)
inductive spMixed (vs:List V)(H:Hp)(Q:VK)(u3:XK):Prop
 |mk (c k:Int)(_:vs=[.int c, .int k])(_:0<=k)(_:k<=100)(_:∀i:Int,0<=i->Q (.int i) H)
end
def k5 {a b:List Nat}(h:Asc a)(k:Asc b):Asc (a++b):=λc hc=>by
 rcases l21.mp hc with hc |hc
 ·exact h c hc
 ·exact k c hc
def nG {H:Hp}{l:List Nat}{i:Int}{Q:VK}(hl:l.length<=1000000)(h0:0<=i)(h1:i < (l.length:Nat))(k:Q (vS [l.getD i.toNat 0]) H):rIxS (vS l) (.int i) H Q:=by
 have e:=at_S (l:=l) (i:=i.toNat) nofun;rw[show ((i.toNat:Nat):Int)=i by omega] at e;exact⟨_,i,_,rfl,rfl,bigS hl,e,k⟩
def t_ne {te:TE}{σ:St}{H:Hp}{y:Str}(a b:List Nat)(ey:y=S b)(he:∀R':VK,R' (vS a) H->te σ H R'):Tells (tTest (tOp rNe te (tC (.str y)))) σ H (decide (a≠b)):=by
 intro R k;refine he _ ⟨rfl,_,rfl,?_⟩;have:(!decide (vS a=V.str y))=decide (a≠b):=by
  rw[ey,<- decide_not];exact decide_eq_decide.mpr ⟨λh e=>h (by rw[e]),λh e=>h (fH (V.str.inj e))⟩
 rw[this];exact k H (Same.refl H)
def Ev (te:TE)(σ:St)(H:Hp)(v:V):Prop:=∀R:VK,R v H->te σ H R
def EvO (t:TO)(σ:St)(H:Hp)(o:Option Int):Prop:=∀R:Option Int->Hp->Prop,R o H->t σ H R
section
variable {σ:St}{H:Hp}{ta tb:TE}{i j:Int}{a b l:List Nat}{v:V}
def ev_v {k:Nat}(h:σ[k]? = some (some v)):Ev (tVar k) σ H v:=λR r=>⟨v,h,r⟩
def ev_c:Ev (tC v) σ H v:=λR r=>r
def tH {y:Str}(e:y=S b):Ev (tC (.str y)) σ H (vS b):=λR r=>by rw[e];exact r
def pb {g:Int->Int->V}(h1:Ev ta σ H (.int i))(h2:Ev tb σ H (.int j))(e:g i j=v):Ev (tOp (rI0 g) ta tb) σ H v:=λR r=>h1 _ (h2 _ ⟨i,j,rfl,rfl,by rw[e];exact r⟩)
def ya {g:Int->V}(h1:Ev ta σ H (.int i))(e:g i=v):Ev (tUn (rU g) ta) σ H v:=λR r=>h1 _ ⟨i,rfl,by rw[e];exact r⟩
def wI (hl:l.length<=1000000)(h1:Ev ta σ H (vS l))(h2:Ev tb σ H (.int i))(h0:0<=i)(hi:i < (l.length:Nat)):Ev (tOp rIxS ta tb) σ H (vS [l.getD i.toNat 0]):=λR r=>h1 _ (h2 _ (nG hl h0 hi r))
def yb:EvO kN σ H none:=λR r=>r
def iS (h:Ev ta σ H (.int i)):EvO (tPart ta) σ H (some i):=λR r=>h _ ⟨i,rfl,r⟩
def pd {tl th:TO}{lo hi:Option Int}(hl:l.length<=1000000)(h1:Ev ta σ H (vS l))(h2:EvO tl σ H lo)(h3:EvO th σ H hi)(e:cutL l lo hi=a):Ev (tSl rSlS ta tl th) σ H (vS a):=λR r=>
 h1 _ (h2 _ (h3 _ ⟨_,rfl,bigS hl,by rw[gi,e];exact r⟩))
def yc (h1 : Ev ta σ H (.int i)) (h2 : Ev tb σ H (.int j)) : Tells (tTest (tOp rEq ta tb)) σ H (decide (i = j)) := fun R k => h1 _ (h2 _ ⟨rfl,_,rfl,by
 rw[show decide (V.int i=V.int j)=decide (i=j) from decide_eq_decide.mpr ⟨λh=>V.int.inj h,λh=>by rw[h]⟩];exact k H (Same.refl H)⟩)
def cR {g:Int->Int->V}{c:Bool}(h1:Ev ta σ H (.int i))(h2:Ev tb σ H (.int j))(e:g i j = .bl c):Tells (tTest (tOp (rI0 g) ta tb)) σ H c:=λR k=>h1 _ (h2 _ ⟨i,j,rfl,rfl,_,e,k H (Same.refl H)⟩)
def t_in (c:Nat)(h1:Ev ta σ H (vS [c]))(h2:Ev tb σ H (vS l)):Tells (tTest (tOp R_op_in_str ta tb)) σ H (l.contains c):=λR k=>
 h1 _ (h2 _ ⟨_,_,rfl,rfl,_,rfl,by rw[c6];exact k H (Same.refl H)⟩)
end
def cA {c:TT}{tb:TS}{D:Ends}{σ:St}{H:Hp}(Pv:Nat->St->Hp->Prop)(m0:Nat)(h0:Pv m0 σ H)
  (hs:∀m σ H,Pv m σ H->∃a,Tells c σ H a/\(a=true->∀H',Same H H'->tb { D with nx:=λσ' H'=>∃m',m' < m/\Pv m' σ' H',ct:=λσ' H'=>∃m',m' < m/\Pv m' σ' H',bk:=D.nx } σ H')/\(a=false->∀H',Same H H'->D.nx σ H')):tWhile c tb D σ H:=by
 refine⟨Pv,⟨m0,h0⟩,λm σ H p=>?_⟩;obtain⟨a,ht,h1,h2⟩:=hs m σ H p;exact ht _ λH' s'=>ite2 (λc=>⟨λσ' H'=>∃m',m' < m/\Pv m' σ' H',λσ' H' h=>h,h1 c H' s'⟩) λc=>h2 (Bool.eq_false_iff.mpr c) H' s'
def rY (l:List Nat):cutL l none (some (-1))=l.dropLast:=by
 unfold cutL;have e:bN l.length l.length (some (-1))=l.length - 1:=by unfold bN;simp only[];omega
 rw[e,List.dropLast_eq_take];rfl
def AscS:Srt->Prop
 | .empty=>True
 | .fence=>True
 | .quote r=>Asc r
 | .heading _ w=>Asc w
 | .cells ts=>∀t∈ts,Asc t
 | .note n w=>Asc n/\Asc w
 | .name n t=>Asc n/\Asc t
 | .item _ sg w=>sg < 128/\Asc w
 | .plain _ w=>Asc w
def iT {l:List Nat}(h:Asc l)(a b:Nat):Asc ((l.drop a).take b):=(h.drop a).take b
def rZ {l:List Nat}(h:Asc l):AscS (aL l):=by
 have hb:=h.bare;unfold aL;simp only[];split
 ·trivial
 split
 ·unfold gY;split <;> exact h.drop _
 split
 ·trivial
 split
 ·exact(hb.drop _).tidy
 split
 ·intro t ht;exact(iT hb _ _).cells ht
 have hi:AscS (iO (aR l)):=by
  unfold iO;simp only[];split
  ·refine⟨?_,((hb.dw _).drop _).tidy⟩;cases hd:(aR l).dropWhile ([32]:List Nat).contains with
   |nil=>decide
   |cons x r=>exact(hb.dw ([32]:List Nat).contains) x (by rw[hd];exact l8 ..)
  ·exact(hb.dw _).tidy
 cases hd:defC (aR l) with
 |none=>exact hi
 |some d=>
  unfold defC at hd;split at hd
  ·cases hd
  ·split at hd
   ·cases hd
   split at hd
   ·cases hd;exact⟨(iT hb _ _).small,(hb.drop _).tidy⟩
   split at hd
   ·cases hd;refine⟨(iT hb _ _).small,?_⟩;cases hw:aN ((aR l).drop _) with
    |nil=>exact λc hc=>by cases hc
    |cons x r=>exact(hb.drop _).word (by rw[hw];exact l8 ..)
   ·cases hd
def yd:Srt->Option (List Nat)
 | .heading _ w=>some w
 | .note _ w=>some w
 | .item _ _ w=>some w
 | .plain _ w=>some w
 |_=>none
def bJ:Srt->List Nat
 | .empty=>mE
 | .fence=>cq
 | .quote _=>cn
 | .heading _ _=>bF
 | .cells _=>fD
 | .note _ _=>j4
 | .name _ _=>iR
 | .item _ _ _=>k0
 | .plain _ _=>gu
inductive Flat (K:Frag) (H:Hp):V->Prop where
 |int (i:Int):Flat K H (.int i)
 |str (x:Str):Flat K H (.str x)
 |lst {q:Addr} {xs:List V}:H q=some (.lst xs)->Flat K H (.ref q)
theorem SrtAt.parts {K:Frag}{H:Hp}{p:Addr}:∀{r:Srt},SrtAt K H p r->∃ys,H p=some (.tup (vS (bJ r)::ys))/\(∀y∈ys,Flat K H y)/\∀w,yd r=some w->∃zs,ys=zs++[vS w]
 | .empty,h=>⟨[],h,(λ_ z=>nomatch z),(λ_ z=>nomatch z)⟩
 | .fence,h=>⟨[],h,(λ_ z=>nomatch z),(λ_ z=>nomatch z)⟩
 | .quote r,h=>⟨[vS r],h,λy z=>by rw[show y=vS r by simpa using z];exact .str _,λ_ z=>nomatch z⟩
 | .heading lv w, h => ⟨[.int lv,vS w],h,λy z=>by
   rcases l9.mp z with rfl |z
   ·exact .int _
   ·rw[show y=vS w by simpa using z];exact .str _,λu z=>⟨[.int lv],by cases z;rfl⟩⟩
 | .cells ts,⟨q,h,hq⟩=>⟨[.ref q],h,λy z=>by rw[show y = .ref q by simpa using z];exact .lst hq,λ_ z=>nomatch z⟩
 | .note n w, h => ⟨[vS n,vS w],h,λy z=>by
   rcases l9.mp z with rfl |z
   ·exact .str _
   ·rw[show y=vS w by simpa using z];exact .str _,λu z=>⟨[vS n],by cases z;rfl⟩⟩
 | .name n t, h => ⟨[vS n,vS t],h,λy z=>by
   rcases l9.mp z with rfl |z
   ·exact .str _
   ·rw[show y=vS t by simpa using z];exact .str _,λ_ z=>nomatch z⟩
 | .item far sg w, h => ⟨[.int far,vS [sg],vS w],h,λy z=>by
   rcases l9.mp z with rfl |z
   ·exact .int _
   rcases l9.mp z with rfl |z
   ·exact .str _
   ·rw[show y=vS w by simpa using z];exact .str _,λu z=>⟨[.int far,vS [sg]],by cases z;rfl⟩⟩
 | .plain far w, h => ⟨[.int far,vS w],h,λy z=>by
   rcases l9.mp z with rfl |z
   ·exact .int _
   ·rw[show y=vS w by simpa using z];exact .str _,λu z=>⟨[.int far],by cases z;rfl⟩⟩
theorem SrtAt.same {K:Frag}{H H':Hp}{p:Addr}(e:Same H H'):∀{r:Srt},SrtAt K H p r->SrtAt K H' p r
 | .empty,h=>e _ _ h
 | .fence,h=>e _ _ h
 | .quote r,h=>e _ _ h
 | .heading lv w,h=>e _ _ h
 | .cells ts,⟨q,h,hq⟩=>⟨q,e _ _ h,e _ _ hq⟩
 | .note n w,h=>e _ _ h
 | .name n t,h=>e _ _ h
 | .item far sg w,h=>e _ _ h
 | .plain far w,h=>e _ _ h
abbrev bls (n:Nat):List Nat:=List.replicate n 32
def wJ (c:Nat)(n:Nat):Txt.mul (S [c]) (n:Int)=S (List.replicate n c):=by
 unfold Txt.mul;by_cases h:(n:Int) < 1
 ·rw[if_pos h];have:n=0:=by omega
  subst this;rfl
 ·rw[if_neg h];by_cases h1:n=1
  ·subst h1;rfl
  ·rw [if_neg (by
    rw[Bool.or_eq_true];rintro(z |z)
    ·have:(n:Int)=1:=by simpa using z
     omega
    ·rw[aA] at z;simp at z)]
   have key:∀(m:Nat) (acc:List Nat),List.foldl (λx1 x2=>x1++x2) acc.toArray (List.replicate m (S [c]).cps)=(acc++List.replicate m c).toArray:=by
    intro m
    induction m with
    |zero=>intro acc;simp
    |succ m ih=>
     intro acc;rw[l47,l79];have e:acc.toArray++(S [c]).cps=(acc++[c]).toArray:=by simp
     rw[e,ih (acc++[c]),l47];simp
   have:=key n [];rw[show (n:Int).toNat=n by omega];simp only[l42] at this;rw[show (#[]:Array Nat)=([]:List Nat).toArray from rfl,this]
def r6 {x:List Nat}(n:Nat)(h:x.getLastD 0≠32):aR (x++bls n)=x:=by
 unfold aR bS;rw[l81,bls,List.reverse_replicate];have key:∀m:Nat,(List.replicate m 32++x.reverse).dropWhile ([32]:List Nat).contains=x.reverse.dropWhile ([32]:List Nat).contains:=by
  intro m
  induction m with
  |zero=>rfl
  |succ m ih=>rw[l47,l40,List.dropWhile_cons_of_pos ∅];exact ih
 rw[key];rcases l57 x with rfl |⟨q,y,rfl⟩
 ·rfl
 ·rw[l68] at h ⊢;rw[l81];have hy:y≠32:=by simpa using h
  show ((y::q.reverse).dropWhile ([32]:List Nat).contains).reverse=q++[y];rw[List.dropWhile_cons_of_neg (by simpa using hy)];simp
def fL {a b:List Nat}(h:b≠[]):(a++b).getLastD 0=b.getLastD 0:=by
 rcases l57 b with rfl |⟨q,y,rfl⟩
 ·exact absurd rfl h
 ·rw[l68,<- l18];simp
section
variable {neat loose:List Nat}
def uO (r:List Nat):aq 124 r=aq 0 r:=by
 cases r with
 |nil=>rfl
 |cons x r=>
  rw[aq,aq];have:(x=124/\(124:Nat)≠92) ↔ (x=124/\(0:Nat)≠92):=⟨λh=>⟨h.1,by decide⟩,λh=>⟨h.1,by decide⟩⟩;by_cases h:x=124
  ·rw[if_pos ⟨h,by decide⟩,if_pos ⟨h,by decide⟩]
  ·rw[if_neg (λz=>h z.1),if_neg (λz=>h z.1)]
theorem j8:∀(a r:List Nat) (p:Nat),(p::a).getLastD 0≠92->aq p (a++124::r)=aq p a++aq 0 r
 | [],r,p,h=>by
  have hp:p≠92:=by simpa using h
  show (if (124:Nat)=124/\p≠92 then []::aq 124 r else _)=_;rw[if_pos ⟨rfl,hp⟩,uO];rfl
 |x::a,r,p,h=>by
  have ih:=j8 a r x (by simpa using h);rw[l40,aq,aq,ih];split
  ·rfl
  ·cases hc:aq x a with
   |nil=>exact absurd hc (cy a x)
   |cons y z=>rfl
def uP (a r:List Nat)(h:a.getLastD 0≠92):aQ (a++124::r)=aQ a++aQ r:=by
 unfold aQ;refine j8 a r 0 ?_;cases a with
 |nil=>decide
 |cons x a=>simpa using h
def nH {j5:List Nat}(hl:j5.getLastD 0≠92)(n:Nat):aL ([124]++j5++[124]++bls n) = .cells (cP j5):=by
 have hb:=r6 (x:=[124]++j5++[124]) n (by rw[fL (by simp)];decide);have hlev:dr ([124]++j5++[124])=0:=by
  unfold dr;show ((124::(j5++[124])).takeWhile _).length=0;rw[List.takeWhile_cons_of_neg ∅];rfl
 have hh:cV ([124]++j5++[124])=0:=by unfold cV;rw[hlev];split <;> rfl
 have w6:([124]++j5++[124]).length=j5.length+2:=by simp
 have hc:bf ([124]++j5++[124])=true:=by
  unfold bf;rw[w6,decide_eq_true (show 2<=j5.length+2 by omega),(pre1 _ _).mpr rfl,Bool.true_and,Bool.true_and];rw[show j5.length+2 - 1=([124]++j5).length by simp,mx];refine decide_eq_true ⟨rfl,?_⟩;rcases l57 j5 with z |⟨q,y,z⟩
  ·rw[z];decide
  ·rw[fL (by rw[z];simp)];exact hl
 have hin:(([124]++j5++[124]).drop 1).take (([124]++j5++[124]).length - 2)=j5:=by
  rw[w6];show (j5++[124]).take (j5.length+2 - 2)=j5;rw[l71];exact l55 ..
 unfold aL;simp only[];rw[hb,if_neg (by simp),if_neg (by rw[pre1];intro z;cases z),if_neg (by intro z;cases z),if_neg (by rw[hh];omega),if_pos hc,hin]
end
def pe {n:Nat}{k:Nat}{fr:List Nat}{g:TG}{tt:TT}{te:TE}{σ:St}{H0:Hp}{Q:Addr->Hp->Prop}(lo:Int)(Pr:V->Prop)(hl:n<=sizeLine)
  (ht:∀i,i < n->∀H',Same H0 H'->∀(C:V->Hp->Prop)(N:Hp->Prop),(∀v H4,Same H' H4->Pr v->C v H4) →
   g (.int (lo+(i:Nat))) (nfS k fr σ) H' λσ2 H2=>nfLe k fr σ σ2/\tt σ2 H2 λb H3=>if b=true then te σ2 H3 C else N H3)
  (hq:∀D H' ys,H0 D=none->Same H0 H'->H' D=some (.lst ys)->ys.length=n->(∀y∈ys,Pr y)->Q D H'):rLC k fr g tt te σ (Itr lo n) H0 Q:=by
 intro D hD;refine⟨λi m acc H=>m=n - i/\i<=n/\acc.length=i/\(∀y∈acc,Pr y)/\H D=some (.lst acc)/\Same H0 H,⟨n,by simp,l10 _,rfl,(λ_ z=>nomatch z),aa,ac hD _⟩,?_⟩;rintro i m acc H ⟨rfl,hi,ha,hP,hDa,sm⟩;refine⟨hDa,?_⟩;by_cases hlt:i < n
 ·refine .inr ⟨hlt,?_⟩;rintro x H' ⟨rfl,rfl⟩;refine ht i hlt _ sm _ _ λv H4 s4 pv=>?_;refine⟨s4 _ _ hDa,by omega,n - (i+1),by omega,rfl,hlt,by rw[l6,ha];rfl,?_,aa,af hD (sm.trans s4)⟩;intro z hz;rcases l21.mp hz with hz |hz
  ·exact hP z hz
  ·rw[show z=v by simpa using hz];exact pv
 ·exact .inl ⟨by show n<=i;omega,hq D H acc hD sm hDa nofun hP⟩
theorem mF {p:List Nat->Prop}:∀{ys:List V},(∀y∈ys,∃l,y=vS l/\p l)->∃ls:List (List Nat),ys=ls.map vS/\∀l∈ls,p l
 | [],_=>⟨[],rfl,λ_ z=>nomatch z⟩
 |y::ys,h=>by
  obtain⟨l,e,pl⟩:=h y (l8 ..);obtain⟨ls,e2,hp⟩:=mF (ys:=ys) λz hz=>h z (l7 _ hz);refine⟨l::ls,by rw[e,e2];rfl,?_⟩;intro x hx;rcases l9.mp hx with rfl |hx
  ·exact pl
  ·exact hp x hx
end Lw
namespace L2
open PySem PySem.Spec PyProof.Rows
section
variable {X:Cx}{c P:Addr}{k i:Nat}{x name:Str}{ps:List Str}{e:Expr}{es:List Expr}{t:TA}{p pos:Pos}{params:Arguments}{body:List Stmt}{scope:Scope}{qs:List (Pos×Str)}
def ii (hst:aE (e::es)=true):cT e=false/\aE es=true:=by
 unfold aE at hst;rw[Bool.and_eq_true,Bool.not_eq_true'] at hst;exact hst
end
end L2
namespace Lm
end Lm
namespace L2
open PySem PySem.Spec PyProof.Rows
section
variable {X:Cx}{k:Nat}{C:Addr}{x m f:Str}{ps:List Str}{sp:Sp}{e o value:Expr}{es:List Expr}{ta tv:TE}{t:TA}{p pos pos' y9:Pos}
def xfld (he:XE X e ta)(hb:bQ e=true:=by rfl):XE X (.Attribute e f pos) (tFld X.K ta f):=⟨wo he.h (base_of hb)⟩
def aO (ha:XE X o ta)(hv:XE X value tv)(hs:swapsWith value (some (.Attribute o f pos')) pos.line X.env=pure false:=by rfl):XS X (.Assign [.Attribute o f pos'] value pos) (sFld X.K ta tv f):=⟨wp ha.h hv.h hs⟩
structure New (P:Program)(w:World)(K:Frag)(mg:Str->Option Value)(base:Heap)(k:Nat)(x:Str)(C:Addr)(ps:List Str)(sp:Sp):Prop where
 ex:∃f fd,Mk K C f/\FnOk P w K mg base CX0 k f fd ps sp/\mg x=some (.ref C)/\Binds K fd ps []
def xnew (D:New X.prog X.w X.K X.mg X.base k x C ps sp)(hr:Room (k+1) X.A)(ha:XA X (e::es) t)(hg:Gl X x:=by exact rfl) (hdb:(x==("__debug__":Str))=false:=by decide) (hst:aE (e::es)=true:=by rfl):
  XE X (.Call (.Name x p) (e::es) [] pos) (tMake C sp [] E0 t):=by
 obtain⟨f,fd,M,F,hm,hb⟩:=D.ex;exact⟨uz M F hr hg hm hb .nil uF ha.h hdb (bu (ii hst).1) (cm (ii hst).2)⟩
structure MethV (P:Program)(w:World)(K:Frag)(mg:Str->Option Value)(base:Heap)(k:Nat)(C:Addr)(m:Str)(ps:List Str)(sp:Sp):Prop where
 ex:∃f fd,Cls K C/\Meth K C m f/\FnOk P w K mg base CX0 k f fd ps sp/\Binds K fd ps []
def MethV.mono {P:Program}{w:World}{K:Frag}{mg:Str->Option Value}{base:Heap}{j k:Nat}{C:Addr}{m:Str}{ps:List Str}{sp:Sp}(V:MethV P w K mg base j C m ps sp)(h:j<=k):MethV P w K mg base k C m ps sp:=let ⟨f,fd,a,b,F,c⟩:=V.ex;⟨f,fd,a,b,F.mono h,c⟩
inductive tMethV.I (XP:Program)(Xw:World)(XK:Frag)(Xm:Str->Option Value)(Xb:Heap)(k:Nat)(m:Str)(t:TA)(σ:St)(Q:VK)(x:V)(H1:Hp):Prop
 |mk (a C dx fs ps sp)(_:x = .ref a)(_:H1 a=some (.ins C dx fs))(_:fs.lookup m=none)(_:MethV XP Xw XK Xm Xb k C m ps sp)(_:t σ H1 λvs H2=>sp (x::vs) H2 Q E0)
def tMethV (X:Cx)(k:Nat)(m:Str)(ta:TE)(t:TA):TE:=λσ H Q=>ta σ H (tMethV.I X.prog X.w X.K X.mg X.base k m t σ Q)
def xmV0 {pl:Sem Bool}(he:XE X o ta)(hr:Room k X.A)
  (ht : eval (.Call (.Attribute o m y9) [] [] pos) X.env = (do
   let ov ← eval o X.env
   standAt y9.atName
   let (f,first) ← holding [ov] (getMethod ov m pl)
   callWith pos f first (backTo pos (starEach [] X.env)) (backToKw pos (keywordEach [] X.env))):=by rfl):
  XE X (.Call (.Attribute o m y9) [] [] pos) (tMethV X k m ta tNil):=by
 refine⟨λw9 s σ H Q I h=>?_⟩;refine PySem.W.methodCall_KW (pl:=pl) (thn (he.h w9 s σ H _ I h) λu s1 zz=>?_) ht;obtain⟨x,H1,I1,rx,a,C,dx,fs,ps,sp,ex,ea,l,V,q⟩:=zz;subst ex;obtain rfl:u=Value.ref a:=rx;obtain⟨f,fd,c,hm,F,hb⟩:=V.ex;refine nr I1 ea c hm l ?_;exact PySem.W.callWith_K0 (first:=[.ref a]) I1.kIn hm.kp (tx (us:=[.ref a]) (vs:=[.ref a]) (ds:=[]) (dvs:=[]) F hr hb .nil uF I1 (.cons rfl .nil) (by rw[l17];exact q))
end
section
variable {X:Cx}{e:Expr}{te:TE}{x:Str}{pos:Pos}
def xaug {i:Nat}{op:Operator}{ti:TIp}{pos':Pos}(hN:X.N.Nodup)(hi:X.N[i]? = some x)(hx:Loc X.env.scope x)(he:XE X e te)(ho:PIp X op ti)(hf:X.fn x=true ∨ X.env.scope.names.lookup x=some .local:=by first |exact .inl rfl |exact .inr rfl):
  XS X (.AugAssign (.Name x pos') op e pos) (tAug i te ti):=⟨wl hN hi hx he.h ho hf⟩
def uQ:XS X (.Continue pos) wc:=⟨kL⟩
inductive rEq0 (K:Frag)(neg:Bool)(x y:V)(H:Hp)(Q:VK):Prop
 |mk (p q xs)(_:x = .ref p)(_:y = .ref q)(_:SqL K H p xs)(_:SqL K H q [])(_:Q (.bl (if neg then !xs.isEmpty else xs.isEmpty)) H)
def wK (hu:X.A.units+64 < cLine):OpR X (compareOp .Eq) (rEq0 X.K false):=by
 intro w9 s σ H x y v u Q I rx ry h;obtain⟨p,q,xs,rfl,rfl,hp,hq,k⟩:=h;cases rx;cases ry;obtain⟨its,r,pl,_⟩:=I.list hp;obtain⟨v7,r2,pl2,_⟩:=I.list hq;have e2:=r2.length;have e1:=r.length;cases v7 with
 |cons _ _=>simp at e2
 |nil=>
 cases its with
 |nil=>
  cases xs with
  |cons _ _=>simp at e1
  |nil=>exact SeqAt.eq_listAt (e:=λ_=>true) pl.isList pl2.isList rfl nofun (λj h1 _=>absurd h1 (Nat.not_lt_zero _)) ⟨.bl _,H,I,rfl,k⟩
 |cons _ _=>
  cases xs with
  |nil=>simp at e1
  |cons _ _=>exact SeqAt.eq_list_lengthsAt pl.isList pl2.isList (by simp) nofun ⟨.bl _,H,I,rfl,k⟩
def ij (hu:X.A.units+64 < cLine):OpR X (compareOp .NotEq) (rEq0 X.K true):=by
 intro w9 s σ H x y v u Q I rx ry h;obtain⟨p,q,xs,rfl,rfl,hp,hq,k⟩:=h;cases rx;cases ry;obtain⟨its,r,pl,_⟩:=I.list hp;obtain⟨v7,r2,pl2,_⟩:=I.list hq;have e2:=r2.length;have e1:=r.length;cases v7 with
 |cons _ _=>simp at e2
 |nil=>
 cases its with
 |nil=>
  cases xs with
  |cons _ _=>simp at e1
  |nil=>exact SeqAt.RcNeAt.lists (e:=λ_=>true) pl.isList pl2.isList rfl nofun (λj h1 _=>absurd h1 (Nat.not_lt_zero _)) _ _ _ _ ⟨.bl _,H,I,rfl,k⟩
 |cons _ _=>
  cases xs with
  |nil=>simp at e1
  |cons _ _=>exact SeqAt.RcNeAt.lists_lengths pl.isList pl2.isList (by simp) nofun _ _ _ _ ⟨.bl _,H,I,rfl,k⟩
end
end L2
namespace Lw
open PySem L2 Lm
def wL {K:Frag}{σ:St}{H:Hp}{ta:TE}{p:Addr}{xs:List V}(h1:Ev ta σ H (.ref p))(hx:SqL K H p xs):Tells (tTest (tOp (rEq0 K true) ta (tLst tNil))) σ H (!xs.isEmpty):=
 λR k=>h1 _ ⟨bg0,λl hl=>⟨p,l,xs,rfl,rfl,(ac hl _).seq hx,SqL.of aa,_,rfl,k _ (ac hl _)⟩⟩
def ye {K:Frag}{σ:St}{H:Hp}{ta:TE}{p:Addr}{xs:List V}(h1:Ev ta σ H (.ref p))(hx:SqL K H p xs):Tells (tTest (tOp (rEq0 K false) ta (tLst tNil))) σ H xs.isEmpty:=
 λR k=>h1 _ ⟨bg0,λl hl=>⟨p,l,xs,rfl,rfl,(ac hl _).seq hx,SqL.of aa,_,rfl,k _ (ac hl _)⟩⟩
end Lw
namespace L2
open PySem
open PySem.Spec PyProof.Rows
end L2
namespace Lm
open PySem PySem.Builtin PySem.Builtin.Str PySem.StrLaws
end Lm
namespace L2
open PySem PySem.Spec PyProof.Rows
end L2
namespace Lm
end Lm
namespace L2
open PySem PySem.Spec PyProof.Rows
def nI {K:Frag}{a:Addr}{xs:List V}{k:Nat}{fr:List Nat}{g:TG}{tt:TT}{te:TE}{σ:St}{H0:Hp}{Q:Addr->Hp->Prop}(f:Nat->V)(hx:SqL K H0 a xs)(hl:xs.length<=sizeLine)
  (ht:∀(i:Nat) x,xs[i]? = some x->∀H',Same H0 H'->∀(C:V->Hp->Prop)(N:Hp->Prop),(∀H4,Same H' H4->C (f i) H4) →
   g x (nfS k fr σ) H' λσ2 H2=>nfLe k fr σ σ2/\tt σ2 H2 λb H3=>if b=true then te σ2 H3 C else N H3)
  (hq:∀D H',H0 D=none->Same H0 H'->H' D=some (.lst ((List.range xs.length).map f))->Q D H'):rLC k fr g tt te σ (Itl K a) H0 Q:=by
 intro D hD;refine⟨λi m acc H=>m=xs.length - i/\i<=xs.length/\Same H0 H/\H D=some (.lst acc)/\acc=(List.range i).map f,⟨xs.length,by simp,l10 _,ac hD _,aa,rfl⟩,?_⟩;rintro i m acc H ⟨rfl,hi,sm,hDa,rfl⟩;refine⟨hDa,?_⟩;by_cases hlt:i < xs.length
 ·refine .inr ⟨⟨xs,xs[i],sm.seq hx,by simp[hlt]⟩,λx H' y=>?_⟩;obtain⟨e,y⟩:=y;rw[e];refine ht i x (y xs (sm.seq hx)) _ sm _ _ λH4 s4=>?_;exact⟨s4 _ _ hDa,by rw[l0,l38];omega,xs.length - (i+1),by omega,rfl,hlt,af hD (sm.trans s4),aa,by rw[l63,l15];rfl⟩
 ·have e:i=xs.length:=by omega
  subst e;exact .inl ⟨⟨xs,sm.seq hx,l5 _⟩,hq D H hD sm hDa⟩
def KeepX (t:Addr)(H H':Hp):Prop:=∀b o,b≠t->H b=some o->H' b=some o
def KeepX.trans {t:Addr}{H H1 H2:Hp}(a:KeepX t H H1)(b:KeepX t H1 H2):KeepX t H H2:=λc o n h=>b c o n (a c o n h)
section
variable {X:Cx}{scope:Scope}{cl:List (Str×Addr)}{C:Addr}{N':List Str}{fp:List Addr}{s:Shared}{H:Hp}
def cC:cQ (aK X scope cl C N' fp s H) (.builtin "len") (R_call_len_seq X.K):=aj (X:=aK X scope cl C N' fp s H)
def iU:cQ (aK X scope cl C N' fp s H) (.type "list") (R_call_list_of X.K):=aD (X:=aK X scope cl C N' fp s H)
end
mutual
inductive Dn (H:Hp):V->PyData->Prop where
 |non:Dn H .non .none
 |bl (b:Bool):Dn H (.bl b) (.bool b)
 |int (i:Int):Dn H (.int i) (.int i)
 |str (x:Str) (h:PyData.strOk x=true) (hl:x.length<=100000):Dn H (.str x) (.str x)
 |lst {a:Addr} {xs:List V} {ds:List PyData}:H a=some (.lst xs)->DnAll H xs ds->xs.length<=100000->Dn H (.ref a) (.list ds)
 |tup {a:Addr} {xs:List V} {ds:List PyData}:H a=some (.tup xs)->DnAll H xs ds->Dn H (.ref a) (.tuple ds)
inductive DnAll (H:Hp):List V->List PyData->Prop where
 |nil:DnAll H [] []
 |cons {x:V} {xs:List V} {d:PyData} {ds:List PyData}:Dn H x d->DnAll H xs ds->DnAll H (x::xs) (d::ds)
end
mutual
theorem Dn.same {H H':Hp}(s:Same H H'):∀{v:V} {d:PyData},Dn H v d->Dn H' v d
 |_,_, .non => .non
 |_,_, .bl b => .bl b
 |_,_, .int i => .int i
 |_,_, .str x h hl => .str x h hl
 |_,_, .lst e r l => .lst (s _ _ e) (DnAll.same s r) l
 |_,_, .tup e r => .tup (s _ _ e) (DnAll.same s r)
theorem DnAll.same {H H':Hp}(s:Same H H'):∀{vs:List V} {ds:List PyData},DnAll H vs ds->DnAll H' vs ds
 |_,_, .nil => .nil
 |_,_, .cons a b => .cons (Dn.same s a) (DnAll.same s b)
end
mutual
theorem Dn.den {K:Frag}{H:Hp}:∀{v:V} {d:PyData},Dn H v d->Den K H v d
 |_,_, .non => .non
 |_,_, .bl b => .bl b
 |_,_, .int i => .int i
 |_,_, .str x h _ => .str x h
 |_,_, .lst e r _ => .lst (SqL.of e) (DnAll.den r)
 |_,_, .tup e r => .tup (SqT.of e) (DnAll.den r)
theorem DnAll.den {K:Frag}{H:Hp}:∀{vs:List V} {ds:List PyData},DnAll H vs ds->DenAll K H vs ds
 |_,_, .nil => .nil
 |_,_, .cons a b => .cons (Dn.den a) (DnAll.den b)
end
theorem DnAll.len {H:Hp}:∀{vs:List V} {ds:List PyData},DnAll H vs ds->vs.length=ds.length
 |_,_, .nil=>rfl
 |_,_, .cons _ b=>by rw[l4,l4,b.len]
def DnAll.get {H:Hp}:∀{vs:List V} {ds:List PyData} {i:Nat} {d:PyData},DnAll H vs ds->ds[i]? = some d->∃v,vs[i]? = some v/\Dn H v d
 |_,_,i,d, .nil,e=>by simp at e
 |_,_,0,d, .cons a b,e=>by cases e;exact⟨_,rfl,a⟩
 |_,_,i+1,d, .cons a b,e=>by
  obtain⟨v,h1,h2⟩:=b.get (i:=i) (by simpa using e);exact⟨v,by simpa using h1,h2⟩
theorem DnAll.app {H:Hp}:∀{vs us:List V} {ds es:List PyData},DnAll H vs ds->DnAll H us es->DnAll H (vs++us) (ds++es)
 |_,_,_,_, .nil,h=>h
 |_,_,_,_, .cons a b,h => .cons a (b.app h)
theorem DnAll.drop {H:Hp}:∀{vs:List V} {ds:List PyData} (n:Nat),DnAll H vs ds->DnAll H (vs.drop n) (ds.drop n)
 |_,_,0,h=>h
 |_,_,n+1, .nil => .nil
 |_,_,n+1, .cons a b=>b.drop n
def dif (H H':Hp):Hp:=λb=>match H b with |none=>H' b |some _=>none
def ar {H H':Hp}{b:Addr}(h:H b=none):dif H H' b=H' b:=by unfold dif;rw[h]
def dW {H H':Hp}{b:Addr}(h:H b≠none):dif H H' b=none:=by
 unfold dif;cases e:H b with
 |none=>exact absurd e h
 |some o=>rfl
def dX {H H':Hp}{b:Addr}{o:HO}(h:dif H H' b=some o):H b=none/\H' b=some o:=by
 cases e:H b with
 |none=>rw[ar e] at h;exact⟨rfl,h⟩
 |some o=>rw[dW (by rw[e];simp)] at h;cases h
def dif_same {H H':Hp}:Same (dif H H') H':=λb o h=>(dX h).2
def av {H H1 H2 H3:Hp}(a:Same H H1)(b:Same H2 H3):Same (dif H1 H2) (dif H H3):=λc o h=>by
 obtain⟨h1,h2⟩:=dX h;rw[ar (a.free h1)];exact b _ _ h2
inductive Off (W:Addr->Prop)(H:Hp)(v:V)(d:PyData):Prop
 |mk (G)(_:Same G H)(_:∀b,W b->G b=none)(_:Dn G v d)
def Off.mono {W W':Addr->Prop}{H:Hp}{v:V}{d:PyData}(h:Off W H v d)(k:∀b,W' b->W b):Off W' H v d:=let ⟨G,a,b,c⟩:=h;⟨G,a,λx hx=>b x (k x hx),c⟩
def Off.new {W:Addr->Prop}{H H':Hp}{v:V}{d:PyData}(h:Dn (dif H H') v d)(hW:∀b,W b->H b≠none):Off W H' v d:=⟨dif H H',dif_same,λb hb=>dW (hW b hb),h⟩
inductive Offs (W:Addr->Prop)(H:Hp)(vs:List V)(ds:List PyData):Prop
 |mk (G)(_:Same G H)(_:∀b,W b->G b=none)(_:DnAll G vs ds)
def Offs.dn {W:Addr->Prop}{H:Hp}{v:List V}{d:List PyData}(h:Offs W H v d):DnAll H v d:=let ⟨_,s,_,k⟩:=h;k.same s
def Offs.sameW {W:Addr->Prop}{H H':Hp}{v:List V}{d:List PyData}(h:Offs W H v d)(s:∀b o,¬ W b->H b=some o->H' b=some o):Offs W H' v d:=
 let ⟨G,a,b,k⟩:=h;⟨G,λc o e=>s c o (λz=>by rw[b c z] at e;cases e) (a c o e),b,k⟩
def Offs.same {W:Addr->Prop}{H H':Hp}{v:List V}{d:List PyData}(h:Offs W H v d)(s:Same H H'):Offs W H' v d:=h.sameW λb o _ e=>s b o e
def Offs.upd {W:Addr->Prop}{H:Hp}{v:List V}{d:List PyData}{p:Addr}{o:HO}(h:Offs W H v d)(hp:W p):Offs W (L2.upd H p o) v d:=h.sameW λb u n e=>(ag (show b≠p from λz=>n (z▸hp))).trans e
def Offs.mono {W W':Addr->Prop}{H:Hp}{v:List V}{d:List PyData}(h:Offs W H v d)(k:∀b,W' b->W b):Offs W' H v d:=let ⟨G,a,b,c⟩:=h;⟨G,a,λx hx=>b x (k x hx),c⟩
def both (G1 G2:Hp):Hp:=λb=>match G1 b with |none=>G2 b |some o=>some o
def pf {G1 G2:Hp}:Same G1 (both G1 G2):=λb o h=>by unfold both;rw[h]
def ph {G1 G2 H:Hp}(a:Same G1 H)(c:Same G2 H):Same G2 (both G1 G2):=λb o h=>by
 unfold both;cases e:G1 b with
 |none=>exact h
 |some u=>
  have h1:=a _ _ e;rw[c _ _ h] at h1;exact h1.symm
def k9 {G1 G2 H:Hp}(a:Same G1 H)(c:Same G2 H):Same (both G1 G2) H:=λb o h=>by
 unfold both at h;cases e:G1 b with
 |none=>rw[e] at h;exact c _ _ h
 |some u=>rw[e] at h;cases h;exact a _ _ e
def Offs.nil {W:Addr->Prop}{H:Hp}:Offs W H [] []:=⟨λ_=>none,(λ_ _ h=>nomatch h),(λ_ _=>rfl), .nil⟩
def Offs.snoc {W:Addr->Prop}{H:Hp}{vs:List V}{ds:List PyData}{v:V}{d:PyData}(h:Offs W H vs ds)(k:Off W H v d):Offs W H (vs++[v]) (ds++[d]):=by
 obtain⟨G1,a1,b1,k1⟩:=h;obtain⟨G2,a2,b2,k2⟩:=k;refine⟨both G1 G2,k9 a1 a2,λb hb=>?_,(k1.same pf).app (.cons (k2.same (ph a1 a2)) .nil)⟩;unfold both;rw[b1 b hb];exact b2 b hb
def Offs.len {W:Addr->Prop}{H:Hp}{vs:List V}{ds:List PyData}(h:Offs W H vs ds):vs.length=ds.length:=let ⟨_,_,_,c⟩:=h;c.len
def tLit (d:PyData):TE:=λ_ H Q=>∀v H',Same H H'->Dn (dif H H') v d->Q v H'
def r9 (ds:List PyData):TA:=λ_ H Q=>∀vs H',Same H H'->DnAll (dif H H') vs ds->Q vs H'
section
variable {X:Cx}{e:Expr}{es:List Expr}{te te':TE}{t t':TA}{d:PyData}{ds:List PyData}{pos:Pos}
def XE.imp (h:XE X e te)(k:∀σ H Q,te' σ H Q->te σ H Q):XE X e te':=⟨λw9 s σ H Q I q=>h.h w9 s σ H Q I (k σ H Q q)⟩
def XA.imp (h:XA X es t)(k:∀σ H Q,t' σ H Q->t σ H Q):XA X es t':=⟨λpos w9 s σ H Q I q=>h.h pos w9 s σ H Q I (k σ H Q q)⟩
def ka {y:Str}{j:Nat}(h:(PyData.strOk y&&decide (y.length<=100000))=true):XE X (.Constant (.str y) j pos) (tLit (.str y)):=by
 rw[Bool.and_eq_true] at h;exact xstr.imp λ_ H Q q=>q _ H (Same.refl _) (.str y h.1 (of_decide_eq_true h.2))
def xls0:XA X [] (r9 []):=xa0.imp λ_ H Q q=>q [] H (Same.refl _) .nil
def xlsc (a:XE X e (tLit d))(b:XA X es (r9 ds))(h:cT e=false:=by rfl):XA X (e::es) (r9 (d::ds)):=
 (xac a b h).imp λ_ H Q q v H1 s1 k1 vs H2 s2 k2=>q (v::vs) H2 (s1.trans s2) (.cons (k1.same (av (Same.refl _) s2)) (k2.same (av s1 (Same.refl _))))
def wM {k:Nat}(a:XA X es (r9 ds))(h:ds.length<=1000:=by decide):XE X (.Tuple es k pos) (tLit (.tuple ds)):=by
 refine(xtup a).imp λ_ H Q q vs H1 s1 k1=>⟨?_,λl hl=>q _ _ (s1.trans (ac hl _)) (.tup (by rw[ar (s1.free hl),aa]) (k1.same (av (Same.refl _) (ac hl _))))⟩;rw[k1.len,sizeLine_eq];omega
end
section
variable {X:Cx}{k:Nat}{x:Str}{ps:List Str}{sp:Sp}{e:Expr}{p pos:Pos}
section
variable {scope:Scope}{cl:List (Str×Addr)}{C:Addr}{N':List Str}{fp:List Addr}{s:Shared}{H:Hp}{o:Expr}{ta:TE}{t:TA}{m:Str}{y9:Pos}{es:List Expr}
def se {pl:Sem Bool}(he:XE (aK X scope cl C N' fp s H) o ta)(hr:Room k X.A)
  (ht : eval (.Call (.Attribute o m y9) [] [] pos) (aK X scope cl C N' fp s H).env = (do
   let ov ← eval o (aK X scope cl C N' fp s H).env
   standAt y9.atName
   let (f,first) ← holding [ov] (getMethod ov m pl)
   callWith pos f first (backTo pos (starEach [] (aK X scope cl C N' fp s H).env)) (backToKw pos (keywordEach [] (aK X scope cl C N' fp s H).env))):=by rfl):
  XE (aK X scope cl C N' fp s H) (.Call (.Attribute o m y9) [] [] pos) (tMethV X k m ta tNil):=xmV0 (X:=aK X scope cl C N' fp s H) (pl:=pl) he hr ht
end
end
end L2
namespace Lw
open PySem L2 Lm PySem.Builtin.Str
inductive P1 where
 |plain (s:Str)
 |code (s:Str)
 |link (w n:Str)
 |note (n:Str)
inductive PC where
 |one (p:P1)
 |strong (ps:List P1)
abbrev wN:Str:="plain"
abbrev yf:Str:="code"
abbrev uR:Str:="strong"
abbrev yg:Str:="link"
abbrev yh:Str:="note"
def d1:P1->PyData
 | .plain s => .tuple [.str wN, .str s]
 | .code s => .tuple [.str yf, .str s]
 | .link w n => .tuple [.str yg, .str w, .str n]
 | .note n => .tuple [.str yh, .str n]
def dP:PC->PyData
 | .one p=>d1 p
 | .strong ps => .tuple [.str uR, .list (ps.map d1)]
def one? : PC->Option P1
 | .one p=>some p
 | .strong _=>none
def ones:List PC->List P1:=λps=>ps.filterMap one?
structure Cp where
 Part:Addr
 Plain:Addr
 Code:Addr
 Strong:Addr
 Link:Addr
 Mark:Addr
def StrG (x:Str):Prop:=PyData.strOk x=true/\x.length<=100000
def StrG.dn {H:Hp}{x:Str}(h:StrG x):Dn H (.str x) (.str x) := .str x h.1 h.2
def P1At (c:Cp)(H:Hp)(a:Addr):P1->Prop
 | .plain s=>StrG s/\∃dx,H a=some (.ins c.Plain dx [("signs", .str s)])
 | .code s=>StrG s/\∃dx,H a=some (.ins c.Code dx [("signs", .str s)])
 | .link w n=>StrG w/\StrG n/\∃dx,H a=some (.ins c.Link dx [("words", .str w),("name", .str n)])
 | .note n=>StrG n/\∃dx,H a=some (.ins c.Mark dx [("name", .str n)])
def P1s (c:Cp)(H:Hp):List Addr->List P1->Prop
 | [],[]=>True
 |a::as,p::ps=>P1At c H a p/\P1s c H as ps
 |_,_=>False
def PCAt (c:Cp)(H:Hp)(a:Addr):PC->Prop
 | .one p=>P1At c H a p
 | .strong ps=>∃dx l as,H a=some (.ins c.Strong dx [("parts", .ref l)])/\H l=some (.lst (as.map V.ref))/\P1s c H as ps
def PCs (c:Cp)(H:Hp):List Addr->List PC->Prop
 | [],[]=>True
 |a::as,p::ps=>PCAt c H a p/\PCs c H as ps
 |_,_=>False
theorem P1At.same {c:Cp}{H H':Hp}{a:Addr}(s:Same H H'):∀{p:P1},P1At c H a p->P1At c H' a p
 | .plain _,⟨g,dx,e⟩=>⟨g,dx,s _ _ e⟩
 | .code _,⟨g,dx,e⟩=>⟨g,dx,s _ _ e⟩
 | .link _ _,⟨g,g2,dx,e⟩=>⟨g,g2,dx,s _ _ e⟩
 | .note _,⟨g,dx,e⟩=>⟨g,dx,s _ _ e⟩
theorem P1s.same {c:Cp}{H H':Hp}(s:Same H H'):∀{as:List Addr} {ps:List P1},P1s c H as ps->P1s c H' as ps
 | [],[],_=>trivial
 |_::_,_::_,⟨a,b⟩=>⟨a.same s,b.same s⟩
theorem PCAt.same {c:Cp}{H H':Hp}{a:Addr}(s:Same H H'):∀{p:PC},PCAt c H a p->PCAt c H' a p
 | .one _,h=>P1At.same s h
 | .strong _,⟨dx,l,as,e1,e2,r⟩=>⟨dx,l,as,s _ _ e1,s _ _ e2,r.same s⟩
theorem PCs.same {c:Cp}{H H':Hp}(s:Same H H'):∀{as:List Addr} {ps:List PC},PCs c H as ps->PCs c H' as ps
 | [],[],_=>trivial
 |_::_,_::_,⟨a,b⟩=>⟨a.same s,b.same s⟩
theorem PCs.len {c:Cp}{H:Hp}:∀{as:List Addr} {ps:List PC},PCs c H as ps->as.length=ps.length
 | [],[],_=>rfl
 |_::_,_::_,⟨_,b⟩=>by rw[l4,l4,b.len]
theorem P1s.len {c:Cp}{H:Hp}:∀{as:List Addr} {ps:List P1},P1s c H as ps->as.length=ps.length
 | [],[],_=>rfl
 |_::_,_::_,⟨_,b⟩=>by rw[l4,l4,b.len]
theorem PCs.snoc {c:Cp}{H:Hp}:∀{as:List Addr} {ps:List PC} {a:Addr} {p:PC},PCs c H as ps->PCAt c H a p->PCs c H (as++[a]) (ps++[p])
 | [],[],_,_,_,h=>⟨h,trivial⟩
 |_::_,_::_,_,_,⟨a,b⟩,h=>⟨a,b.snoc h⟩
theorem PCs.get {c:Cp}{H:Hp}:∀{as:List Addr} {ps:List PC} {i:Nat} {a:Addr},PCs c H as ps->as[i]? = some a->∃p,ps[i]? = some p/\PCAt c H a p
 | [],[],_,_,_,e=>by simp at e
 |_::_,_::_,0,_,⟨h,_⟩,e=>by cases e;exact⟨_,rfl,h⟩
 |_::_,_::_,i+1,_,⟨_,b⟩,e=>by
  obtain⟨p,h1,h2⟩:=b.get (i:=i) (by simpa using e);exact⟨p,by simpa using h1,h2⟩
theorem PCs.ones {c:Cp}{H:Hp}:∀{as:List Addr} {ps:List PC},PCs c H as ps->(∀p∈ps,one? p≠none)->P1s c H as (Lw.ones ps)
 | [],[],_,_=>trivial
 |a::as, .one p::ps,⟨h,r⟩,k=>⟨h,r.ones λq hq=>k q (l7 _ hq)⟩
 |a::as, .strong q::ps,⟨h,r⟩,k=>absurd rfl (k (.strong q) l8)
structure Inst (K:Frag)(C:Addr):Prop where
 cls:Cls K C
 ha:findIn K (.ref C) "__class__"=some (some (.builtin "object.__class__"))
 hn:specialIn K (.builtin "object.__class__") "__get__"=some (some (.builtin "getset_descriptor.__get__"))
 htk:takesIn K (.builtin "object.__class__")=some true
 hm:mroIn K C (.type "object")=some true
def Inst.ty {K:Frag}{C:Addr}(i:Inst K C){H:Hp}{a dx:Addr}{fs:List (Str×V)}(e:H a=some (.ins C dx fs)):TyOf K H (.ref a) (.ref C) := .ins e i.cls i.ha i.hn i.htk i.hm
end Lw
namespace L2
open PySem PySem.Spec PyProof.Rows
def Offs.toDif {H0 H:Hp}{W:Addr->Prop}{vs:List V}{ds:List PyData}(h:Offs W H vs ds)(hW:∀b,H0 b≠none->W b):DnAll (dif H0 H) vs ds:=by
 obtain⟨G,a,b,k⟩:=h;refine k.same λc o e=>?_;have:H0 c=none:=Classical.byContradiction λz=>by rw[b c (hW c z)] at e;cases e
 rw[ar this];exact a _ _ e
def cW {K:Frag}{a:Addr}{xs:List V}{k:Nat}{fr:List Nat}{g:TG}{tt:TT}{te:TE}{σ:St}{H0:Hp}{Q:Addr->Hp->Prop}(f:Nat->PyData)(hx:SqL K H0 a xs)(hl:xs.length<=100000)
  (ht:∀(i:Nat) x,xs[i]? = some x->∀H',Same H0 H'->∀(C:V->Hp->Prop)(N:Hp->Prop),(∀v H4,Same H' H4->Dn (dif H' H4) v (f i)->C v H4) →
   g x (nfS k fr σ) H' λσ2 H2=>nfLe k fr σ σ2/\tt σ2 H2 λb H3=>if b=true then te σ2 H3 C else N H3)
  (hq:∀D H',H0 D=none->Same H0 H'->Dn (dif H0 H') (.ref D) (.list ((List.range xs.length).map f))->Q D H'):rLC k fr g tt te σ (Itl K a) H0 Q:=by
 intro D hD;refine⟨λi m acc H=>m=xs.length - i/\i<=xs.length/\Same H0 H/\H D=some (.lst acc)/\Offs (λb=>b=D ∨ H0 b≠none) H acc ((List.range i).map f),⟨xs.length,by simp,l10 _,ac hD _,aa, .nil⟩,?_⟩;rintro i m acc H ⟨rfl,hi,sm,hDa,hof⟩;refine⟨hDa,?_⟩;have hal:acc.length=i:=by rw[hof.len,l0,l38]
 by_cases hlt:i < xs.length
 ·refine .inr ⟨⟨xs,xs[i],sm.seq hx,by simp[hlt]⟩,λx H' y=>?_⟩;obtain⟨e,y⟩:=y;rw[e];refine ht i x (y xs (sm.seq hx)) _ sm _ _ λv H4 s4 dv=>?_;have o4:Off (λb=>b=D ∨ H0 b≠none) H4 v (f i):=Off.new dv λb hb=>by
   rcases hb with rfl |hb
   ·rw[hDa];simp
   ·cases q:H0 b with
    |none=>exact absurd q hb
    |some o=>rw[sm _ _ q];simp
  refine⟨s4 _ _ hDa,by rw[sizeLine_eq];omega,xs.length - (i+1),by omega,rfl,hlt,af hD (sm.trans s4),aa,?_⟩;rw[l63,l15];exact((hof.same s4).snoc o4).upd (.inl rfl)
 ·have e:i=xs.length:=by omega
  subst e;exact .inl ⟨⟨xs,sm.seq hx,l5 _⟩,hq D H hD sm (.lst (by rw[ar hD];exact hDa) (hof.toDif λb hb => .inr hb) nofun)⟩
end L2
namespace Lw
open PySem L2 Lm
def aU {t:TT}{f u:TS}{D:Ends}{σ:St}{H:Hp}(ht:Tells t σ H false)(k:∀H',Same H H'->u D σ H'):tSeq (tIfS t f iz) u D σ H:=s_if false ht (λ_ _ z=>Bool.noConfusion z) (λH' s' _=>k H' s')
def bU {t:TT}{f g u:TS}{D:Ends}{σ:St}{H:Hp}(ht:Tells t σ H true)(k:∀H',Same H H'->f { D with nx:=u D } σ H'):tSeq (tIfS t f g) u D σ H:=s_if true ht (λH' s' _=>k H' s') (λ_ _ z=>Bool.noConfusion z)
theorem P1s.toC {c:Cp}{H:Hp}:∀{as:List Addr} {ps:List P1},P1s c H as ps->PCs c H as (ps.map .one)
 | [],[],_=>trivial
 |_::_,_::_,⟨a,b⟩=>⟨a,b.toC⟩
inductive spTolds (c:Cp)(R:PC->Prop)(vs:List V)(H:Hp)(Q:VK)(u3:XK):Prop
 |mk (l:Addr)(as:List Addr)(ps:List PC)(_:vs=[.ref l])(_:H l=some (.lst (as.map V.ref)))(_:PCs c H as ps)(_:∀p∈ps,R p)(_:as.length<=100000)(_:∀r H',Same H H'->Dn (dif H H') (.ref r) (.list (ps.map dP))->Q (.ref r) H')
inductive spTold (c:Cp)(R:PC->Prop)(vs:List V)(H:Hp)(Q:VK)(u3:XK):Prop
 |mk (a p)(_:vs=[.ref a])(_:PCAt c H a p)(_:R p)(_:∀v H',Same H H'->Dn (dif H H') v (dP p)->Q v H')
def uS (P:Program)(w:World)(K:Frag)(mg:Str->Option Value)(base:Heap)(k:Nat)(c:Cp)(R:PC->Prop):Prop:=
 ∀p,R p->∀H a,PCAt c H a p->∃C dx fs sp,H a=some (.ins C dx fs)/\fs.lookup ("told":Str)=none/\MethV P w K mg base k C "told" ["self"] sp/\∀Q E,(∀v H',Same H H'->Dn (dif H H') v (dP p)->Q v H')->sp [.ref a] H Q E
def cX {K:Frag}{σ:St}{H:Hp}{ta:TE}{p:Addr}{xs:List V}(h:Ev ta σ H (.ref p))(hq:SqL K H p xs ∨ SqT K H p xs):Ev (tCB (R_call_len_seq K) (tCons ta tNil)) σ H (.int xs.length):=λR r=>h _ ⟨p,xs,rfl,hq,r⟩
def tI {K:Frag}{σ:St}{H:Hp}{ta tb:TE}{p:Addr}{xs:List V}{i:Int}{v:V}(h:Ev ta σ H (.ref p))(hi:Ev tb σ H (.int i))(hq:SqT K H p xs)(e:atI xs i=some v):Ev (tOp (rIxT K) ta tb) σ H v:=λR r=>h _ (hi _ ⟨p,xs,i,v,rfl,rfl,hq,e,r⟩)
def t_bv {σ:St}{H:Hp}{ta:TE}{b:Bool}(ev:Ev ta σ H (.bl b)):Tells (tB ta) σ H b:=λR k=>ev _ ⟨_,rfl,k _ (Same.refl _)⟩
def Tells.eq {t:TT}{σ:St}{H:Hp}{a b:Bool}(h:Tells t σ H a)(e:a=b):Tells t σ H b:=e▸h
end Lw
namespace K15
open PySem L2 Lm Lw
variable {P:Program}{w:World}{K:Frag}{mg:Str->Option Value}{base:Heap}
abbrev p5:List Str:=["rows","place","deep"]
abbrev p6:List Str:=["text","place"]
abbrev p7:List Str:=["rows","deep"]
abbrev p8:List Str:=["items","place","level"]
abbrev p9:List Str:=["self","signs"]
abbrev p10:List Str:=["self","parts"]
abbrev p11:List Str:=["self","blocks"]
abbrev p12:List Str:=["rows","place"]
abbrev p13:List Str:=["_law_script","_law_k"]
abbrev p14:List Str:=["self","lines"]
abbrev p15:List Str:=["_law_cell","_law_k"]
abbrev p16:List Str:=["self","name"]
abbrev p17:List Str:=["self","words","name"]
abbrev p18:List Str:=["self","entries"]
abbrev p19:List Str:=["self","level","parts"]
abbrev p20:List Str:=["self","name","parts"]
abbrev p21:List Str:=["self","name","target"]
abbrev p22:List Str:=["self","sign","parts","entries"]
abbrev p23:List Str:=["self","head","sides","lines"]
abbrev p24:List Str:=["text","place","closing"]
abbrev p25:List Str:=["text","place","closings"]
abbrev p26:List Str:=["texts","columns"]
abbrev p27:List Str:=["line","columns"]
def top (i:Nat):Stmt:=PySem.Challenge.pw_lightmark_k15_levels_rules_and_fences.main.body.getD i (.Pass ⟨0,0,0,0⟩)
def uT (s:Stmt):List Stmt:=match s with
 | .ClassDef _ _ _ b _ _ _ _ _ _ _=>b
 |_=>[]
abbrev meth (i j:Nat):Stmt:=(uT (top i)).getD j (.Pass ⟨0,0,0,0⟩)
def bm {f u:TS}{D:Ends}{σ:St}{H:Hp}(J:St->Hp->Prop)(h:∀N:St->Hp->Prop,(∀σ' H',J σ' H'->N σ' H')->f { D with nx:=N } σ H) (k:∀σ' H',J σ' H'->u D σ' H'):tSeq f u D σ H:=h (u D) k
structure TxP (K:Frag)(mg:Str->Option Value)(c:Cp)(BT:Addr):Prop where
 g10:mg "list"=none
 u10:mg "len"=none
 q11:mg "isinstance"=none
 g12:mg "all"=none
 g11:mg "str"=none
 g13:mg "tuple"=none
 z12:∃t,mg "NAME_SIGNS"=some (.str (S nameSigns) t)
 u12:∃t,mg "LONGEST_NAME"=some (.int 12 t)
 g14:mg "BadName"=some (.ref BT)
 u23:OwnX K BT
 q13:mg "Plain"=some (.ref c.Plain)
 q27:Inst K c.Plain
 u28:Inst K c.Code
 g28:Inst K c.Strong
 g16:Inst K c.Link
 z28:Inst K c.Mark
 q28:NoAttr K c.Plain "signs"
 u29:NoAttr K c.Code "signs"
 g29:NoAttr K c.Strong "parts"
 z29:NoAttr K c.Link "words"
 q29:NoAttr K c.Link "name"
 u30:NoAttr K c.Mark "name"
 q62:kitOne K (.ref c.Plain) (.ref c.Plain)=some true
 u63:kitOne K (.ref c.Code) (.ref c.Plain)=some false
 g63:kitOne K (.ref c.Strong) (.ref c.Plain)=some false
 z63:kitOne K (.ref c.Link) (.ref c.Plain)=some false
 q63:kitOne K (.ref c.Mark) (.ref c.Plain)=some false
section
variable {c:Cp}{BT:Addr}
inductive spInit1 (C:Addr)(fl:Str)(vs:List V)(H:Hp)(Q:VK)(u3:XK):Prop
 |mk (x dx v)(_:vs=[.ref x,v])(_:H x=some (.ins C dx []))(_:Q .non (upd H x (.ins C dx [(fl,v)])))
inductive spInit2 (C:Addr)(fl gl:Str)(vs:List V)(H:Hp)(Q:VK)(u3:XK):Prop
 |mk (x dx v u)(_:vs=[.ref x,v,u])(_:H x=some (.ins C dx []))(_:Q .non (upd (upd H x (.ins C dx [(fl,v)])) x (.ins C dx [(fl,v),(gl,u)])))
inductive spInitS (C:Addr)(vs:List V)(H:Hp)(Q:VK)(u3:XK):Prop
 |mk (x dx l xs)(_:vs=[.ref x, .ref l])(_:H x=some (.ins C dx []))(_:H l=some (.lst xs))(_:∀p,H p=none->Q .non (upd (upd H p (.lst xs)) x (.ins C dx [("parts", .ref p)])))
abbrev c7:Stmt:=meth 4 0
abbrev dY:Stmt:=meth 5 0
abbrev cE:Stmt:=meth 6 0
abbrev dZ:Stmt:=meth 7 0
abbrev ee:Stmt:=meth 8 0
abbrev c8:Stmt:=meth 4 1
abbrev eg:Stmt:=meth 5 1
abbrev cF:Stmt:=meth 6 1
abbrev ej:Stmt:=meth 7 1
abbrev ek:Stmt:=meth 8 1
def kb (F:Fun K "__init__" "Plain.__init__" c7 f fd)(T:TxP K mg c BT):FnOk P w K mg base CX0 1 f fd p9 (spInit1 c.Plain "signs"):=by
 have sc:FnScope p9 p9 (ad c7):=mkS;refine F.oks sc λH Q hr h=>?_;obtain⟨x,dx,v,rfl,e,q⟩:=h;refine ap (xb1 (aO (xv 0) (xv 1))) ?_;exact⟨_,rfl,_,rfl,x,_,dx,_,rfl,e,T.q27.cls,T.q28,by decide,q⟩
def la (F:Fun K "__init__" "Code.__init__" dY f fd)(T:TxP K mg c BT):FnOk P w K mg base CX0 1 f fd p9 (spInit1 c.Code "signs"):=by
 have sc:FnScope p9 p9 (ad dY):=mkS;refine F.oks sc λH Q hr h=>?_;obtain⟨x,dx,v,rfl,e,q⟩:=h;refine ap (xb1 (aO (xv 0) (xv 1))) ?_;exact⟨_,rfl,_,rfl,x,_,dx,_,rfl,e,T.u28.cls,T.u29,by decide,q⟩
def lc (F:Fun K "__init__" "Mark.__init__" ee f fd)(T:TxP K mg c BT):FnOk P w K mg base CX0 1 f fd p16 (spInit1 c.Mark "name"):=by
 have sc:FnScope p16 p16 (ad ee):=mkS;refine F.oks sc λH Q hr h=>?_;obtain⟨x,dx,v,rfl,e,q⟩:=h;refine ap (xb1 (aO (xv 0) (xv 1))) ?_;exact⟨_,rfl,_,rfl,x,_,dx,_,rfl,e,T.z28.cls,T.u30,by decide,q⟩
def ld (F:Fun K "__init__" "Link.__init__" dZ f fd)(T:TxP K mg c BT):FnOk P w K mg base CX0 1 f fd p17 (spInit2 c.Link "words" "name"):=by
 have sc:FnScope p17 p17 (ad dZ):=mkS;refine F.oks sc λH Q hr h=>?_;obtain⟨x,dx,v,u,rfl,e,q⟩:=h;refine ap (xbc (aO (xv 0) (xv 1))
  (xb1 (aO (xv 0) (xv 2)))) ?_
 refine⟨_,rfl,_,rfl,x,_,dx,_,rfl,e,T.g16.cls,T.z29,by decide,?_⟩;exact⟨_,rfl,_,rfl,x,_,dx,_,rfl,aa,T.g16.cls,T.q29,by show 1 < 1000;decide,q⟩
def iV (F:Fun K "__init__" "Strong.__init__" cE f fd)(T:TxP K mg c BT):FnOk P w K mg base CX0 1 f fd p10 (spInitS c.Strong):=by
 have sc:FnScope p10 p10 (ad cE):=mkS;refine F.oks sc λH Q hr h=>?_;obtain⟨x,dx,l,xs,rfl,e,el,q⟩:=h;refine ap (xb1 (aO (xv 0) (xcTy aD T.g10 rfl (xac (xv 1) xa0)))) ?_;exact⟨_,rfl,l,_,rfl, .inl (SqL.of el),λp hp=>⟨_,rfl,x,_,dx,_,rfl,ac hp _ _ _ e,T.g28.cls,T.g29,by decide,q p hp⟩⟩
def R1 (p:PC):Prop:=one? p≠none
def kd (F:Fun K "told" "Plain.told" c8 f fd)(T:TxP K mg c BT):FnOk P w K mg base CX0 1 f fd ["self"] (spTold c λp=>∃s,p = .one (.plain s)):=by
 have sc:FnScope ["self"] ["self"] (ad c8):=mkS;refine F.oks sc λ{_ _ _ s _ _}H Q hr h=>?_;obtain⟨a,p,rfl,ha,⟨s,rfl⟩,q⟩:=h;obtain⟨g,dx,e⟩:=ha;refine ap (xb1 (xret (xtup (xac xstr (xac (xfld (xv 0)) xa0))))) ?_;exact⟨_,rfl,a,_,dx,_,_,rfl,e,T.q27.cls,T.q28,rfl,bg2,λp hp=>q _ _ (ac hp _) (.tup (by rw[ar hp,aa]) (.cons (.str _ ∅ ∅) (.cons g.dn .nil)))⟩
def lf (F:Fun K "told" "Code.told" eg f fd)(T:TxP K mg c BT):FnOk P w K mg base CX0 1 f fd ["self"] (spTold c λp=>∃s,p = .one (.code s)):=by
 have sc:FnScope ["self"] ["self"] (ad eg):=mkS;refine F.oks sc λ{_ _ _ s _ _}H Q hr h=>?_;obtain⟨a,p,rfl,ha,⟨s,rfl⟩,q⟩:=h;obtain⟨g,dx,e⟩:=ha;refine ap (xb1 (xret (xtup (xac xstr (xac (xfld (xv 0)) xa0))))) ?_;exact⟨_,rfl,a,_,dx,_,_,rfl,e,T.u28.cls,T.u29,rfl,bg2,λp hp=>q _ _ (ac hp _) (.tup (by rw[ar hp,aa]) (.cons (.str _ ∅ ∅) (.cons g.dn .nil)))⟩
def lg (F:Fun K "told" "Mark.told" ek f fd)(T:TxP K mg c BT):FnOk P w K mg base CX0 1 f fd ["self"] (spTold c λp=>∃s,p = .one (.note s)):=by
 have sc:FnScope ["self"] ["self"] (ad ek):=mkS;refine F.oks sc λ{_ _ _ s _ _}H Q hr h=>?_;obtain⟨a,p,rfl,ha,⟨s,rfl⟩,q⟩:=h;obtain⟨g,dx,e⟩:=ha;refine ap (xb1 (xret (xtup (xac xstr (xac (xfld (xv 0)) xa0))))) ?_;exact⟨_,rfl,a,_,dx,_,_,rfl,e,T.z28.cls,T.u30,rfl,bg2,λp hp=>q _ _ (ac hp _) (.tup (by rw[ar hp,aa]) (.cons (.str _ ∅ ∅) (.cons g.dn .nil)))⟩
def li (F:Fun K "told" "Link.told" ej f fd)(T:TxP K mg c BT):FnOk P w K mg base CX0 1 f fd ["self"] (spTold c λp=>∃s n,p = .one (.link s n)):=by
 have sc:FnScope ["self"] ["self"] (ad ej):=mkS;refine F.oks sc λ{_ _ _ s _ _}H Q hr h=>?_;obtain⟨a,p,rfl,ha,⟨s,n,rfl⟩,q⟩:=h;obtain⟨g,g2,dx,e⟩:=ha;refine ap (xb1 (xret (xtup (xac xstr (xac (xfld (xv 0)) (xac (xfld (xv 0)) xa0)))))) ?_;exact⟨_,rfl,a,_,dx,_,_,rfl,e,T.g16.cls,T.z29,rfl,_,rfl,a,_,dx,_,_,rfl,e,T.g16.cls,T.q29,rfl,bg3,λp hp=>q _ _ (ac hp _) (.tup (by rw[ar hp,aa]) (.cons (.str _ ∅ ∅) (.cons g.dn (.cons g2.dn .nil))))⟩
abbrev pi:Stmt:=top 10
def nJ (ps:List PC):(List.range ps.length).map (λi=>dP (ps.getD i (.one (.note ""))))=ps.map dP:=by
 apply l73;intro i;rw[List.getElem?_map,List.getElem?_map];by_cases hi:i < ps.length
 ·rw[List.getElem?_range hi,List.getElem?_eq_getElem hi];simp only[l84,l23,List.getElem?_eq_getElem hi,Option.getD_some]
 ·rw[List.getElem?_eq_none (by rw[l38];omega),List.getElem?_eq_none nofun];rfl
def mG {k:Nat}{R:PC->Prop}(F:Fun K "told_parts" "told_parts" pi f fd)(hM:uS P w K mg base k c R):FnOk P w K mg base CX0 (k+1) f fd ["parts"] (spTolds c R):=by
 have sc:FnScope ["parts"] ["parts"] (ad pi):=mkS;refine F.oks sc λH Q hr h=>?_;obtain⟨l,as,ps,rfl,el,hps,hR,hl,q⟩:=h;refine ap (xb1 (xret (xlc0 (own:=["part"])
  (xil (xv 0))
  (λ_ _ _ _=>xgm (i:=0) (show (["part"]:List Str).Nodup by decide)) (λ_ _ _ _=>xq0) (λ_ _ _ _=>(se (k:=k) (xv 0) hr.mono))))) ?_
 refine⟨_,rfl,l,rfl,⟨_,SqL.of el⟩,?_⟩;have w6:=hps.len;refine cW (λi=>dP (ps.getD i (.one (.note "")))) (SqL.of el) (by rw[l0];exact hl) ?_ ?_
 ·intro i x hx H2 s2 C N hC;rw[List.getElem?_map] at hx;cases hai:as[i]? with
  |none=>rw[hai] at hx;cases hx
  |some a=>
  rw[hai] at hx;cases hx;obtain⟨p,hp1,hp2⟩:=hps.get hai;obtain⟨Cc,dx,fs,sp,e1,e2,V,hsp⟩:=hM p (hR p (l16 hp1)) H2 a (hp2.same s2);refine⟨(nfLe.refl _ _ _).set ∅ _,iteT (B:=N H2) ⟨_,rfl,a,Cc,dx,fs,_,sp,rfl,e1,e2,V,hsp _ _ λv H4 s4 d4=>hC v H4 s4 ?_⟩⟩;rw[l23,hp1];exact d4
 ·intro D H2 hD s2 dD;refine q D H2 s2 ?_;rw[l0,w6,nJ] at dD;exact dD
def iW {k:Nat}(F:Fun K "told" "Strong.told" cF f fd)(T:TxP K mg c BT)(Dc:Def P w K mg base k "told_parts" ["parts"] (spTolds c R1)):FnOk P w K mg base CX0 (k+1) f fd ["self"] (spTold c λp=>∃ps,p = .strong ps/\ps.length<=100000):=by
 have sc:FnScope ["self"] ["self"] (ad cF):=mkS;refine F.oks sc λH Q hr h=>?_;obtain⟨a,p,rfl,ha,⟨ps,rfl,hpl⟩,q⟩:=h;obtain⟨dx,l,as,e,el,hps⟩:=ha;refine ap (xb1 (xret (xtup (xac xstr (xac (xcd Dc hr (xac (xfld (xv 0)) xa0)) xa0))))) ?_;refine⟨_,rfl,a,_,dx,_,_,rfl,e,T.g28.cls,T.g29,rfl,l,as,ps.map .one,rfl,el,hps.toC,λp hp=>?_,by rw[hps.len];exact hpl,λr H1 s1 d1'=>⟨bg2,λt ht=>q _ _ (s1.trans (ac ht _)) ?_⟩⟩
 ·obtain⟨x,_,rfl⟩:=l20.mp hp;unfold R1;simp[one?]
 ·refine .tup (by rw[ar (s1.free ht),aa]) (.cons (.str _ ∅ ∅) (.cons ?_ .nil));have:=d1'.same (av (Same.refl H) (ac ht (.tup [V.str "strong", .ref r])));rw[l19] at this;exact this
end
section
abbrev sBar:Stmt:=top 26
def wO (F:Fun K "is_parting_bar" "is_parting_bar" sBar f fd):FnOk P w K mg base CX0 1 f fd p6 spBar:=by
 have sc:FnScope p6 p6 (ad sBar):=mkS;refine F.oks sc λH Q hr h=>?_;obtain⟨l,i,rfl,hl,h1,q⟩:=h;refine ap (xbc (xif (ay gV (xix dq (xv 0) (xv 1) (λ_ _=>rfl)) xstr (al _)) (xb1 (xret xbl)) xb0)
  (xb1 (xret (xorV (xcmp bx (xv 1) xint (al _)) (xone (xcmp gV (xix dq (xv 0) (xop bp (xv 1) xint) (λ_ _=>rfl)) xstr (al _))))))) ?_
 refine⟨_,rfl,_,rfl,_,_,_,rfl,rfl,bigS hl,at_S h1,rfl,_,rfl,?_⟩;have e1:=getD_some h1;refine ite2 (λc=>?_) (λc=>?_)
 ·have c':=neT (a:=[l.getD i 0]) (b:=[124]) c rfl rfl;have e:bT l i=false:=by
   unfold bT;rw[e1];have:(some (l.getD i 0)==some 124)=false:=by
    rw[beq_eq_false_iff_ne];intro z;exact c' (by rw[Option.some.inj z])
   rw[this];rfl
  rw[e] at q;exact q
 ·have c':=neF (a:=[l.getD i 0]) (b:=[124]) c rfl rfl;have c2:l.getD i 0=124:=by simpa using c'
  have e:bT l i=(i==0||l[i - 1]? != some 92):=by
   unfold bT;rw[e1,c2];rfl
  rw[e] at q;refine⟨_,rfl,rfl,_,rfl,?_⟩;refine ite2 (λd=>?_) (λd=>?_)
  ·have:i=0:=by
    have:=of_decide_eq_true d;have:=V.int.inj this;omega
   subst this;exact q
  ·have hi:i≠0:=by
    intro z;subst z;exact d (by simp)
   have hs:(i:Int) - 1=((i - 1:Nat):Int):=by omega
   refine⟨_,rfl,_,rfl,_,_,rfl,rfl,_,_,_,rfl,rfl,bigS hl,(by rw[hs];exact at_S nofun),rfl,?_⟩;have e2:(i==0||l[i - 1]? != some 92) = !decide (V.str ⟨#[l.getD (i - 1) 0]⟩=V.str (Str.ofString "\\")):=by
    have z0:(i==0)=false:=by simpa using hi
    rw[z0,Bool.false_or,getD_some (show i - 1 < l.length by omega),Bool.eq_iff_iff];constructor
    ·intro z;cases hd:decide (V.str ⟨#[l.getD (i - 1) 0]⟩=V.str (Str.ofString "\\")) with
     |false=>rfl
     |true=>
      have:=eqT (a:=[l.getD (i - 1) 0]) (b:=[92]) hd rfl rfl;simp only[List.cons.injEq,and_true] at this;rw[this] at z;simp at z
    ·intro z;have:=neT (a:=[l.getD (i - 1) 0]) (b:=[92]) z rfl rfl;simp only[bne_iff_ne,ne_eq,Option.some.injEq];intro y;exact this (by rw[y])
   rw[e2] at q;exact q
abbrev pj:Stmt:=top 24
def uU:FnScope ["text"] ["text"] (ad pj):=mkS
def sh (F:Fun K "words_of" "words_of" pj f fd):FnOk P w K mg base CX0 1 f fd ["text"] spWords:=by
 refine F.ok uU (λvs H Q E h=>?_) (λcdv A outer s H vs Q E hr h=>?_)
 ·obtain⟨l,rfl,_⟩:=h;rfl
 obtain⟨l,rfl,hl,k⟩:=h;refine ap (xb1 (xret (xlc0 (own:=["word"])
  (xil (xm plainAttrs_str PySem.F.slot_str_split PySem.F.type_str_split mq (xv 0) (xac xstr xa0)))
  (λ_ _ _ _=>xgm (i:=0) (show (["word"]:List Str).Nodup by decide)) (λ_ _ _ _=>xq1 (ay gV (xv 0) xstr (al _))) (λ_ _ _ _=>(xv 0))))) ?_
 refine⟨_,rfl,rfl,S l,S [32],rfl,rfl,rfl,by rw[aA];omega,λp hp=>⟨p,rfl,⟨_,SqL.of aa⟩,?_⟩⟩;refine oS (λv => !decide (v = .str (S []))) id (SqL.of aa) ?_ ?_ ?_
 ·rw[kU,l0,l0];have:=h8 32 l;have hs:=sizeLine_eq;omega
 ·intro x hx H' sm C N hC hN;obtain⟨z,_,rfl⟩:=l20.mp hx;refine⟨(nfLe.refl _ _ _).set ∅ _,_,rfl,rfl,_,rfl,?_⟩;refine ite2 (λc=>⟨_,rfl,hC _ (Same.refl _) c⟩) (λc=>hN _ (Same.refl _) (Bool.eq_false_iff.mpr c))
 ·intro D H' hD sm e;refine k D H' ((ac hp _).trans sm) ((ac hp _).free hD) ?_;rw[e,kU];congr 2;unfold aN;rw[l61,l19,List.filter_map];congr 1;refine List.filter_congr λw _=>?_;show (!decide (V.str (S w)=V.str (S [])))=decide (w≠[]);by_cases h:w=[]
  ·subst h;simp
  ·have:V.str (S w)≠V.str (S []):=λq=>h (fH (V.str.inj q));simp[h,this]
abbrev uV:Stmt:=top 25
def uW (F:Fun K "tidy" "tidy" uV f fd)(Dz:Def P w K mg base 1 "words_of" ["text"] spWords):FnOk P w K mg base CX0 2 f fd ["text"] spTidy:=by
 have sc:FnScope ["text"] ["text"] (ad uV):=mkS;refine F.oks sc λH Q hr h=>?_;obtain⟨l,rfl,hl,q⟩:=h;refine ap (xb1 (xret (xm plainAttrs_str slot_str_join type_str_join bz xstr (xac (xcd Dz hr (xac (xv 0) xa0)) xa0)))) ?_;refine⟨rfl,_,rfl,?_⟩;refine⟨l,rfl,hl,λr H' sm _ e=>?_⟩;refine⟨S [32],r,(aN l).map S,rfl,rfl,?_,?_,?_⟩
 ·exact SqL.of (by rw[e,ck])
 ·exact jZ l hl
 rw[bD];exact q H' sm
abbrev pk:Stmt:=top 27
def si (F:Fun K "split_cells" "split_cells" pk f fd)(T:Tx mg)(DA:Def P w K mg base 1 "is_parting_bar" p6 spBar)(Df:Def P w K mg base 2 "tidy" ["text"] spTidy):FnOk P w K mg base CX0 3 f fd ["text"] spCells:=by
 have sc:FnScope ["text","bars","texts","begin","bar"] ["text"] (ad pk):=mkS;refine F.oks sc λ{_ _ _ s _ _}H Q hr h=>?_;obtain⟨l,rfl,hl,q⟩:=h;refine ap (xbc (xslc (i:=1) sc.nd rfl rfl (cl:=[("text",s.heap.objs.size+1)]) (own:=["place"]) (fr:=[0]) (N':=["place","text"]) rfl (kS (xs:=["text"]) ⟨rfl,trivial⟩ ⟨rfl,rfl, .inl rfl, .inl rfl,trivial⟩ ∅) ∅ ∅ (by with_unfolding_all rfl)
  (xir1 rfl T.q10 (xac (xcB aw T.u10 PySem.boot_len (xac (xv 0) xa0)) xa0))
  (λ_ _ _ _=>xgm (i:=0) (show (["place","text"]:List Str).Nodup by decide)) (λ_ _ _ _=>xq1 (bv (xcd DA hr (xac (xv 1) (xac (xv 0) xa0))))) (λ_ _ _ _=>(xv 0)))
  (xbc (xst (i:=2) sc.nd (xlst xa0))
  (xbc (xst (i:=3) sc.nd xint)
  (xbc (xfor PassesOwn.never rfl (xil (xop bM (xv 1) (xlst (xac (xcB aw T.u10 PySem.boot_len (xac (xv 0) xa0)) xa0)))) (xgm (i:=4) sc.nd)
  (xbc (aZ (xmA (xv 2) (xac (xZ (xcd Df hr (xac (xsl bt (xv 0) (xo1 (xv 3)) (xo1 (xv 4))) xa0)) ∅ ∅) xa0)))
  (xb1 (xst (i:=3) sc.nd (xop au (xv 4) xint)))))
  (xb1 (xret (xv 2))))))) ?_
 have hs:=sizeLine_eq;refine⟨_,rfl,_,rfl,bigS hl,_,rfl,by omega,by rw[aA];omega,?_⟩;refine rK 0 (pInt (bT l)) id (by rw[aA];omega) ?_ ?_
 ·intro i hi H' sm C N hC hN;have hi':i < l.length:=by rw[aA] at hi;omega
  refine⟨(nfLe.refl _ _ _).set ∅ _,_,rfl,_,rfl,l,i,by rw[Int.zero_add];rfl,hl,hi',_,rfl,?_⟩;refine ite2 (λc=>⟨_,rfl,hC _ (Same.refl _) ?_⟩) (λc=>hN _ (Same.refl _) ?_)
  ·show bT l (0+(i:Int)).toNat=true;rw[show (0+(i:Int)).toNat=i by omega];exact c
  ·show bT l (0+(i:Int)).toNat=false;rw[show (0+(i:Int)).toNat=i by omega];exact Bool.eq_false_iff.mpr c
 intro B H1 hB s1 eB;rw[show (((S l).length:Nat):Int).toNat=l.length by rw[aA];omega,nF] at eB;refine⟨big ∅,λr hr1=>?_⟩;have hBr:B≠r:=(nq hr1 eB);refine⟨_,rfl,_,rfl,_,rfl,bigS hl,bg1,λt ht=>?_⟩;have htr:r≠t:=λe=>by rw[<- e,aa] at ht;cases ht
 have hBt:B≠t:=λe=>by rw[<- e,ag hBr,eB] at ht;cases ht
 let bars:=(List.range l.length).filter (bT l)
 have hb:=rT l;refine⟨B,t,_,_,rfl,rfl,by rw[ag hBt,ag hBr];exact eB,aa,?_,λL hL=>⟨L,rfl,⟨_,SqL.of aa⟩,?_⟩⟩
 ·rw[l0];show ((List.range l.length).filter (bT l)).length+1<=sizeLine;omega
 have hLr:L≠r:=λe=>by rw[e,ag htr,aa] at hL;cases hL
 have hLt:L≠t:=(nq aa hL);have ext:((bars.map λ(i:Nat)=>V.int i)++[V.int (S l).length])=(bars++[l.length]).map λ(i:Nat)=>V.int i:=by rw[aA];simp
 rw[ext]
 let ps:=bars++[l.length]
 have hps:∀(i p:Nat),ps[i]? = some p->p<=l.length:=by
  intro i p h;rcases l21.mp (l16 h) with h |h
  ·exact Nat.le_of_lt (l33.mp (l65.mp h).1)
  ·simp at h;omega
 have hraw:cj l 0 ps=aQ l:=kW l;refine cw (xs := ps.map fun (i : Nat) => V.int i) (λi σ H'=>∃x,σ=[some (vS l),some (.ref B),some (.ref r),some (.int (dj 0 ps i)),x]/\Same H H'/\H' L=some (.lst (ps.map λ(i:Nat)=>V.int i)) ∧
  H' r=some (.lst (((aQ l).take i).map λc=>vS (unesc (bR c))))) ⟨none,rfl,?_,aa,?_⟩ ?_ ?_ ?_
 ·refine(s1.trans ?_).trans (ac hL _);exact(ac hr1 _).trans (ac ht _)
 ·rw[ag (Ne.symm hLr),ag htr,aa];simp
 ·rintro i σ H' _ ⟨x,_,_,h,_⟩;exact SqL.of h
 ·rintro i x σ H' hx ⟨y,rfl,s2,eL,er⟩;rw[List.getElem?_map] at hx;cases hp:ps[i]? with
  |none=>rw[hp] at hx;cases hx
  |some p=>
  rw[hp] at hx;cases hx;have hpl:=hps i p hp;have w5:=gr l ps 0 i p hp;rw[hraw] at w5;have hbe:dj 0 ps i<=l.length:=rV hp;refine⟨_,rfl, .inl ⟨rfl,_,SqL.of er⟩,_,rfl,_,rfl,_,rfl,_,rfl,_,rfl,_,rfl,bigS hl,(l.drop (dj 0 ps i)).take (p - dj 0 ps i),?_,?_,λH3 s3=>⟨_,rfl,?_,?_⟩⟩
  ·rw[gi,uN l _ _ hpl hbe];rfl
  ·rw[l30,l13];omega
  ·rw[aA];have:=iP ((l.drop (dj 0 ps i)).take (p - dj 0 ps i));rw[l30,l13] at this;omega
  have er3:=s3 _ _ er;refine⟨r,_,_,rfl,rfl,er3,?_,?_⟩
  ·rw[l0,l30];have:=jY l;omega
  refine⟨_,rfl,_,_,rfl,rfl,some (.int (p:Int)),?_,?_,?_,?_⟩
  ·rw[nE hp];rfl
  ·exact af (s1.free hr1) (s2.trans s3)
  ·rw[ag hLr];exact s3 _ _ eL
  ·rw[aa,<- j3 _ _ _ _ w5];congr 4;exact congrArg V.str (iM _)
 ·rintro σ H' ⟨x,rfl,s2,eL,er⟩;refine⟨_,rfl,q r H' s2 (s1.free hr1) ?_⟩;rw[er,o5,l19,l39 (by rw[<- hraw,gq,l0];exact l5 _)];rfl
abbrev uX:Stmt:=top 22
def uY (F:Fun K "is_name" "is_name" uX f fd)(T:Tx mg):FnOk P w K mg base CX0 1 f fd ["thing"] spName:=by
 have sc:FnScope ["thing"] ["thing"] (ad uX):=mkS;refine F.oks sc λH Q hr h=>?_;obtain⟨l,rfl,hl,q⟩:=h;refine ap (xbc (xif (ge (bv (xcB iH T.q11 rfl (xac (xv 0) (xac (xty (T:="str") T.g11 rfl) xa0))))) (xb1 (xret xbl)) xb0)
  (xbc (xif (xor (ay dL (xcB aw T.u10 PySem.boot_len (xac (xv 0) xa0)) xint (al _)) (xor1 (ay oA (xcB aw T.u10 PySem.boot_len (xac (xv 0) xa0)) (xgI T.u12) (al _)))).xt (xb1 (xret xbl)) xb0)
  (xb1 (xret (xcB (mt rfl) T.g12 rfl (xac (xlc0 (own:=["sign"])
  (xis (xv 0))
  (λ_ _ _ _=>xgm (i:=0) (show (["sign"]:List Str).Nodup by decide)) (λ_ _ _ _=>xq0) (λ_ _ _ _=>(xcmp dM (xv 0) (xgS T.z12) (by with_unfolding_all rfl)))) xa0)))))) ?_
 refine⟨_,rfl,_,_,_,true,rfl, .str _,iI _ _,_,rfl,?_⟩;refine ite2 (λc=>absurd c ∅) (λ_=>?_);refine⟨_,rfl,_,rfl,bigS hl,_,_,rfl,rfl,_,rfl,?_⟩;refine ite2 (λc=>?_) (λc=>?_)
 ·refine ite2 (λ_=>?_) (λc=>absurd rfl c);have e:aH l=false:=by
   have:=of_decide_eq_true c;rw[aA] at this;unfold aH;rw[decide_eq_false (show ¬ 1<=l.length by omega)];rfl
  rw[e] at q;exact q H (Same.refl H)
 refine⟨_,rfl,_,rfl,bigS hl,_,_,rfl,rfl,_,rfl,?_⟩;have h1:1<=l.length:=by
  have:=of_decide_eq_false (Bool.eq_false_iff.mpr c);rw[aA] at this;omega
 refine ite2 (λd=>?_) (λd=>?_)
 ·have e:aH l=false:=by
   have:=of_decide_eq_true d;rw[aA] at this;unfold aH;rw[decide_eq_false (show ¬ l.length<=12 by omega),Bool.and_false];rfl
  rw[e] at q;exact q H (Same.refl H)
 have h2:l.length<=12:=by
  have:=of_decide_eq_false (Bool.eq_false_iff.mpr d);rw[aA] at this;omega
 refine⟨_,rfl,_,rfl,?_⟩;refine wF (λ_=>true) o9 (bigS hl) ?_ ?_
 ·intro c hc H' sm C N hC hN;refine⟨(nfLe.refl _ _ _).set ∅ _,?_⟩;refine⟨_,rfl,_,_,rfl,rfl,?_⟩;have:=hC H' (Same.refl H') rfl;have e:o9 (.str ⟨#[c]⟩) = .bl (!(Builtin.Str.occurrences (S nameSigns) (S [c]) 0 (S nameSigns).length 1).isEmpty):=by
   rw[c6];show V.bl ([c].all nameSigns.contains)=_;simp
  rw[e] at this;exact this
 intro D H' hD sm eD;refine⟨D,l.map nameSigns.contains,rfl,SqL.of ?_,?_⟩
 ·rw[eD,b7,List.filter_eq_self.mpr (λ_ _=>rfl),l19,l19];congr 2;refine l50 λc _=>?_;show V.bl ([c].all nameSigns.contains)=_;simp
 ·have e:aH l=(l.map nameSigns.contains).all id:=by
   unfold aH;rw[decide_eq_true h1,decide_eq_true h2,List.all_map];simp
  rw[<- e];exact q H' sm
abbrev lj:Stmt:=top 23
def pp (F:Fun K "name_of" "name_of" lj f fd)(T:Tx mg)(Dg:Def P w K mg base 1 "is_name" ["thing"] spName):FnOk P w K mg base CX0 2 f fd ["thing"] spNameOf:=by
 have sc:FnScope ["thing"] ["thing"] (ad lj):=mkS;refine F.oks sc λH Q hr h=>?_;obtain⟨l,rfl,hl,hn,q⟩:=h;refine ap (xbc (xif (ge (bv (xcd Dg hr (xac (xv 0) xa0)))) (xb1 oT) xb0)
  (xb1 (xret (xm0 plainAttrs_str PySem.F.slot_str_lower PySem.F.type_str_lower rH (xv 0))))) ?_
 refine⟨_,rfl,l,rfl,hl,λH' sm=>⟨_,rfl,?_⟩⟩;refine ite2 (λc=>by rw[hn] at c;cases c) (λ_=>?_);refine⟨_,rfl,rfl,_,rfl,rfl,by rw[aA];exact hl,?_⟩;rw[uK l (rX hn)];exact q H' sm
abbrev uZ:Stmt:=top 35
def u0 (F:Fun K "rest_of_quote" "rest_of_quote" uZ f fd):FnOk P w K mg base CX0 1 f fd ["row"] spRest:=by
 have sc:FnScope ["row"] ["row"] (ad uZ):=mkS;refine F.oks sc λH Q hr h=>?_;obtain⟨l,rfl,hl,q⟩:=h;refine ap (xb1 (xret (xifE (bv (xm plainAttrs_str slot_str_startswith type_str_startswith aP (xv 0) (xac xstr xa0))) (xsl bt (xv 0) (xo1 xint) xo0) (xsl bt (xv 0) (xo1 xint) xo0)))) ?_;refine⟨_,rfl,rfl,_,_,rfl,rfl,bigS hl,_,rfl,?_⟩;have e:=fK l [62,32];refine ite2 (λc=>?_) (λc=>?_)
 ·have c':[62,32].isPrefixOf l=true:=e.symm.trans c;refine⟨_,rfl,_,rfl,_,rfl,bigS hl,?_⟩;rw[show gY l=l.drop 2 by unfold gY;rw[if_pos c']] at q;rw[show Txt.slice (S l) (some 2) none=_ from dF l 2];exact q
 ·have c':¬ [62,32].isPrefixOf l=true:=λz=>c (e.trans z);refine⟨_,rfl,_,rfl,_,rfl,bigS hl,?_⟩;rw[show gY l=l.drop 1 by unfold gY;rw[if_neg c']] at q;rw[show Txt.slice (S l) (some 1) none=_ from dF l 1];exact q
abbrev u6:Stmt:=top 36
def u7 (F:Fun K "heading_level" "heading_level" u6 f fd)(T:Tx mg):FnOk P w K mg base CX0 1 f fd ["bare"] spHead:=by
 have sc:FnScope ["bare","level"] ["bare"] (ad u6):=mkS;refine F.oks sc λH Q hr h=>?_;obtain⟨l,rfl,hl,q⟩:=h;refine ap (xbc (xst (i:=1) sc.nd (xop bp (xcB aw T.u10 PySem.boot_len (xac (xv 0) xa0)) (xcB aw T.u10 PySem.boot_len (xac (xm plainAttrs_str PySem.F.slot_str_lstrip PySem.F.type_str_lstrip jQ (xv 0) (xac xstr xa0)) xa0))))
  (xbc (xif (xor (ay oA (xv 1) (xgI T.u16) (al _)) (xor1 (ge (bv (xm plainAttrs_str slot_str_startswith type_str_startswith aP (xsl bt (xv 0) (xo1 (xv 1)) xo0) (xac xstr xa0)))))).xt (xb1 (xret xint)) xb0)
  (xb1 (xret (xv 1))))) ?_
 have hdl:(l.dropWhile ([61]:List Nat).contains).length<=l.length:=by have:=dS ([61]:List Nat).contains l;omega
 have elv:((S l).length:Int) - ((Txt.lstripChars (S l) (Str.ofString "=")).length:Nat)=((dr l:Nat):Int):=by
  rw[show Txt.lstripChars (S l) (Str.ofString "=")=_ from iK l [61],aA,aA];have:=dS ([61]:List Nat).contains l;unfold dr;omega
 refine⟨_,rfl,_,rfl,bigS hl,_,rfl,rfl,_,_,rfl,rfl,bigS hl,_,rfl,?_,_,_,rfl,rfl,?_⟩
 ·rw[show Txt.lstripChars (S l) (Str.ofString "=")=_ from iK l [61]];exact bigS nofun
 try dsimp only[tAsg.K0,tDrop.K0,Ends.to_nx,Ends.to_rt]
 rw[elv];refine⟨_,rfl,_,_,rfl,rfl,_,rfl,?_⟩;refine ite2 (λc=>?_) (λc=>?_)
 ·refine ite2 (λ_=>?_) (λc=>absurd rfl c);have:=of_decide_eq_true c;rw[show cV l=0 by unfold cV;rw[if_pos (.inl nofun)]] at q;exact q
 have c':=of_decide_eq_false (Bool.eq_false_iff.mpr c);refine⟨_,rfl,_,rfl,_,rfl,_,rfl,bigS hl,rfl,_,_,rfl,rfl,?_,_,rfl,?_⟩
 ·rw[dF];exact bigS (by rw[l13];omega)
 have e:Txt.startswith (Txt.slice (S l) (some ((dr l:Nat):Int)) none) (Str.ofString " ")=[32].isPrefixOf (l.drop (dr l)):=by
  rw[dF];exact fK _ [32]
 rw[e];refine ite2 (λd=>?_) (λd=>?_)
 ·rw[show cV l=0 by unfold cV;rw[if_pos (.inr (λz=>by rw[z] at d;cases d))]] at q;exact q
 ·have e3:cV l=dr l:=by
   unfold cV;rw[if_neg];rintro(h |h)
   ·omega
   ·exact d (by rw[Bool.eq_false_iff.mpr h];rfl)
  rw[e3] at q;exact⟨_,rfl,q⟩
abbrev sIsC:Stmt:=top 37
def wP (F:Fun K "is_cells" "is_cells" sIsC f fd)(T:Tx mg)(DA:Def P w K mg base 1 "is_parting_bar" p6 spBar):FnOk P w K mg base CX0 2 f fd ["bare"] spIsC:=by
 have sc:FnScope ["bare"] ["bare"] (ad sIsC):=mkS;refine F.oks sc λH Q hr h=>?_;obtain⟨l,rfl,hl,q⟩:=h;refine ap (xb1 (xret (uJ (xcmp oB (xcB aw T.u10 PySem.boot_len (xac (xv 0) xa0)) xint (al _)) (uJ (xm plainAttrs_str slot_str_startswith type_str_startswith aP (xv 0) (xac xstr xa0)) (xone (xcd DA hr (xac (xv 0) (xac (xop bp (xcB aw T.u10 PySem.boot_len (xac (xv 0) xa0)) xint) xa0)))))))) ?_;refine⟨_,rfl,_,rfl,bigS hl,_,_,rfl,rfl,_,rfl,?_⟩;refine ite2 (λc=>?_) (λc=>?_)
 ·have c1:=of_decide_eq_true c;rw[aA] at c1;have h2:2<=l.length:=by omega
  refine⟨_,rfl,rfl,_,_,rfl,rfl,bigS hl,_,rfl,?_⟩;have e:=fK l [124];refine ite2 (λd=>?_) (λd=>?_)
  ·have d':[124].isPrefixOf l=true:=e.symm.trans d;refine⟨_,rfl,_,rfl,_,rfl,bigS hl,_,_,rfl,rfl,l,l.length - 1,?_,hl,by omega,?_⟩
   ·rw[aA];show [vS l,V.int ((l.length:Int) - 1)]=[vS l,V.int ((l.length - 1:Nat):Int)];rw[show (l.length:Int) - 1=((l.length - 1:Nat):Int) by omega]
   ·rw[show bf l=bT l (l.length - 1) by unfold bf;rw[decide_eq_true h2,d',Bool.true_and,Bool.true_and]] at q;exact q
  ·have d':[124].isPrefixOf l=false:=e.symm.trans (Bool.eq_false_iff.mpr d);rw[show bf l=false by unfold bf;rw[d',Bool.and_false];rfl] at q;exact q
 ·have c1:=of_decide_eq_false (Bool.eq_false_iff.mpr c);rw[aA] at c1;rw[show bf l=false by unfold bf;rw[decide_eq_false (show ¬ 2<=l.length by omega)];rfl] at q;exact q
abbrev sDef:Stmt:=top 38
def wQ (F:Fun K "definition_of" "definition_of" sDef f fd)(T:Tx mg)(Dz:Def P w K mg base 1 "words_of" ["text"] spWords)(Dg:Def P w K mg base 1 "is_name" ["thing"] spName)
  (Dj:Def P w K mg base 2 "name_of" ["thing"] spNameOf):FnOk P w K mg base CX0 3 f fd ["bare"] (spDef K):=by
 have sc:FnScope ["bare","place","words"] ["bare"] (ad sDef):=mkS;refine F.oks sc λ{_ _ _ s _ _}H Q hr h=>?_;obtain⟨l,rfl,hl,q⟩:=h;refine ap (xbc (xst (i:=1) sc.nd (xm plainAttrs_str slot_str_find type_str_find uI (xv 0) (xac (xgS T.u14) xa0)))
  (xbc (xif (xor (ay dL (xv 1) xint (al _)) (xor1 (ge (bv (xm plainAttrs_str slot_str_startswith type_str_startswith aP (xv 0) (xac xstr xa0)))))).xt (xb1 (xret xnon)) xb0)
  (xbc (xst (i:=2) sc.nd (xcd Dz hr (xac (xsl bt (xv 0) (xo1 (xop au (xv 1) (xcB aw T.u10 PySem.boot_len (xac (xgS T.u14) xa0)))) xo0) xa0)))
  (xbc (xif (xand (bv (xm plainAttrs_str slot_str_startswith type_str_startswith aP (xv 0) (xac xstr xa0))) (gW (bv (xcd Dg hr (xac (xsl bt (xv 0) (xo1 xint) (xo1 (xv 1))) xa0))))).xt (xb1 (xret (xtup (xac xstr (xac (xcd Dj hr (xac (xsl bt (xv 0) (xo1 xint) (xo1 (xv 1))) xa0)) (xac (xm plainAttrs_str slot_str_join type_str_join bz xstr (xac (xv 2) xa0)) xa0)))))) xb0)
  (xbc (xif (xand (bv (xcd Dg hr (xac (xsl bt (xv 0) (xo1 xint) (xo1 (xv 1))) xa0))) (gW (ay bx (xcB aj T.u10 PySem.boot_len (xac (xv 2) xa0)) xint (al _)))).xt (xb1 (xret (xtup (xac xstr (xac (xcd Dj hr (xac (xsl bt (xv 0) (xo1 xint) (xo1 (xv 1))) xa0)) (xac (xix ax (xv 2) xint (λ_ _=>rfl)) xa0)))))) xb0)
  (xb1 (xret xnon))))))) ?_
 refine⟨_,rfl,rfl,_,_,rfl,rfl,bigS hl,?_⟩;have ef:=wG l [93,58,32];cases hf:gX [93,58,32] l with
 |none=>
  rw[hf] at ef;refine⟨_,rfl,_,_,rfl,rfl,_,rfl,?_⟩;refine ite2 (λ_=>?_) (λc=>?_)
  ·refine ite2 (λ_=>?_) (λc=>absurd rfl c);exact q .non H (Same.refl H) (by unfold defC;rw[hf];exact rfl)
  ·exfalso;rw[ef] at c;exact c ∅
 |some p=>
 rw[hf] at ef;dsimp only at ef ⊢;rw[ef];have hp0:(0:Int)<=(p:Int):=Int.natCast_nonneg p
 try dsimp only[tAsg.K0,tDrop.K0,Ends.to_nx,Ends.to_rt,tSeq,ah]
 refine s_if _ (t_or false (![91].isPrefixOf l) (λR h=>⟨_,rfl,_,_,rfl,rfl,_,rfl,?_⟩) (λ_ H1 s1=>j6 _ (dU l [91] hl rfl (λR' h=>⟨_,rfl,h⟩)))) (λH0 s0 c=>?_) (λH0 s0 c=>?_)
 ·rw[show decide ((p:Int) < 0)=false from decide_eq_false nofun];exact h H (Same.refl H)
 ·have c':¬ [91].isPrefixOf l=true:=λz=>by rw[z] at c;cases c
  exact q .non H0 s0 (by unfold defC;rw[hf];simp only[];rw[if_pos c'];exact rfl)
 have h1:[91].isPrefixOf l=true:=by
  cases z:[91].isPrefixOf l with
  |true=>rfl
  |false=>rw[z] at c;cases c
 refine⟨_,rfl,_,rfl,_,rfl,big ∅,_,_,rfl,rfl,_,rfl,_,rfl,bigS hl,l.drop (p+3),?_,?_,λW H1 s1 hW eW=>?_⟩
 ·show [V.str (Txt.slice (S l) (some ((p:Int)+3)) none)]=_;rw[show (p:Int)+3=((p+3:Nat):Int) by omega,dF]
 ·rw[l13];omega
 have hlen2:((l.drop 2).take (p - 2)).length<=1000000:=by rw[l30,l13];omega
 have hlen1:((l.drop 1).take (p - 1)).length<=1000000:=by rw[l30,l13];omega
 have e2:[V.str (Txt.slice (S l) (some 2) (some (p:Int)))]=[vS ((l.drop 2).take (p - 2))]:=by rw[show Txt.slice (S l) (some 2) (some (p:Int))=_ from tG l 2 p]
 have e1:[V.str (Txt.slice (S l) (some 1) (some (p:Int)))]=[vS ((l.drop 1).take (p - 1))]:=by rw[show Txt.slice (S l) (some 1) (some (p:Int))=_ from tG l 1 p]
 have hws:(l.drop (p+3)).length<=1000000:=by rw[l13];omega
 try dsimp only[tAsg.K0,tDrop.K0,Ends.to_nx,Ends.to_rt,tSeq,ah]
 refine s_if _ (dk ([91,94].isPrefixOf l) (aH ((l.drop 2).take (p - 2))) (dU l [91,94] hl rfl (λR' h=>⟨_,rfl,h⟩)) (λ_ H2 s2 R h=>?_)) (λH2 s2 c=>?_) (λH2 s2 c=>?_)
 ·exact⟨_,rfl,_,rfl,_,rfl,_,rfl,_,rfl,bigS hl,_,e2,hlen2,λH' s'=>⟨_,rfl,h H' s'⟩⟩
 ·rw[Bool.and_eq_true] at c;refine⟨_,rfl,_,rfl,_,rfl,_,rfl,_,rfl,bigS hl,_,e2,hlen2,c.2,λH3 s3=>⟨rfl,_,rfl,S [32],W,(aN (l.drop (p+3))).map S,rfl,rfl,?_,jZ _ hws,bg3,λr hr3=>?_⟩⟩
  ·exact SqL.of (by rw[(s2.trans s3) _ _ eW,ck])
  ·refine q _ _ (((s0.trans s1).trans (s2.trans s3)).trans (ac hr3 _)) ?_;unfold defC;rw[hf];simp only[];rw[if_neg (by rw[h1];simp),if_pos c];refine⟨r,rfl,?_⟩;show upd _ _ _ _=_;rw[aa,bD];rfl
 try dsimp only[Ends.to_nx,Ends.to_rt,tSeq,iz]
 have hsq:∀H',Same H1 H'->SqL K H' W ((aN (l.drop (p+3))).map vS):=λH' s'=>SqL.of (s' _ _ eW);refine s_if _ (dk (aH ((l.drop 1).take (p - 1))) (decide ((aN (l.drop (p+3))).length=1)) (λR h=>?_) (λ_ H3 s3 R h=>?_)) (λH3 s3 d=>?_) (λH3 s3 d=>?_)
 ·exact⟨_,rfl,_,rfl,_,rfl,_,rfl,_,rfl,bigS hl,_,e1,hlen1,λH' s'=>⟨_,rfl,h H' s'⟩⟩
 ·refine⟨_,rfl,_,_,rfl, .inl (hsq _ (s2.trans s3)),rfl,_,rfl,?_⟩;rw [l0,kM,show ((((aN (l.drop (p+3))).length:Nat):Int)==1)=decide ((aN (l.drop (p+3))).length=1) by
   rw[Bool.eq_iff_iff];simp;omega]
  exact h H3 (Same.refl H3)
 ·rw[Bool.and_eq_true] at d;obtain⟨d1,d2⟩:=d;have d2:=of_decide_eq_true d2;obtain⟨x,hx⟩:=List.length_eq_one_iff.mp d2;refine⟨_,rfl,_,rfl,_,rfl,_,rfl,_,rfl,bigS hl,_,e1,hlen1,d1,λH4 s4=>⟨_,rfl,W,_,0,vS x,rfl,rfl,hsq _ ((s2.trans s3).trans s4),by rw[hx];rfl,bg3,λr hr3=>?_⟩⟩;refine q _ _ (((s0.trans s1).trans ((s2.trans s3).trans s4)).trans (ac hr3 _)) ?_;unfold defC;rw[hf];simp only[];rw[if_neg (by rw[h1];simp),if_neg (by intro z;rw[z.1,z.2] at c;cases c),if_pos ⟨d1,d2⟩];refine⟨r,rfl,?_⟩;show upd _ _ _ _=_;rw[aa,hx];rfl
 ·refine q _ _ ((s0.trans s1).trans (s2.trans s3)) ?_;unfold defC;rw[hf];simp only[];rw[if_neg (by rw[h1];simp),if_neg (by intro z;rw[z.1,z.2] at c;cases c),if_neg (by intro z;rw[z.1,decide_eq_true z.2] at d;cases d)];rfl
abbrev u8:Stmt:=top 39
def u9 (F:Fun K "item_or_plain" "item_or_plain" u8 f fd)(T:Tx mg)(Df:Def P w K mg base 2 "tidy" ["text"] spTidy):FnOk P w K mg base CX0 3 f fd ["bare"] (spItem K):=by
 have sc:FnScope ["bare","body","far"] ["bare"] (ad u8):=mkS;refine F.oks sc λH Q hr h=>?_;obtain⟨l,rfl,hl,q⟩:=h;refine ap (xbc (xst (i:=1) sc.nd (xm plainAttrs_str PySem.F.slot_str_lstrip PySem.F.type_str_lstrip jQ (xv 0) (xac xstr xa0)))
  (xbc (xst (i:=2) sc.nd (xop bp (xcB aw T.u10 PySem.boot_len (xac (xv 0) xa0)) (xcB aw T.u10 PySem.boot_len (xac (xv 1) xa0))))
  (xbc (xif (xor (bv (xm plainAttrs_str slot_str_startswith type_str_startswith aP (xv 1) (xac xstr xa0))) (xor1 (bv (xm plainAttrs_str slot_str_startswith type_str_startswith aP (xv 1) (xac xstr xa0))))).xt (xb1 (xret (xtup (xac xstr (xac (xv 2) (xac (xix dq (xv 1) xint (λ_ _=>rfl)) (xac (xcd Df hr (xac (xsl bt (xv 1) (xo1 xint) xo0) xa0)) xa0))))))) xb0)
  (xb1 (xret (xtup (xac xstr (xac (xv 2) (xac (xcd Df hr (xac (xv 1) xa0)) xa0))))))))) ?_
 refine⟨_,rfl,rfl,_,_,rfl,rfl,bigS hl,?_⟩
 try dsimp only[tAsg.K0,tDrop.K0,Ends.to_nx,Ends.to_rt]
 rw[show Txt.lstripChars (S l) (Str.ofString " ")=_ from iK l [32]];have hsplit:=dS ([32]:List Nat).contains l;obtain⟨body,y0⟩:∃body,body=l.dropWhile ([32]:List Nat).contains:=⟨_,rfl⟩;rw[<- y0] at hsplit ⊢;have hb:body.length<=1000000:=by omega
 refine⟨_,rfl,_,rfl,bigS hl,_,rfl,_,rfl,bigS hb,_,_,rfl,rfl,?_⟩
 try dsimp only[tAsg.K0,tDrop.K0,Ends.to_nx,Ends.to_rt,tSeq,ah]
 rw[aA,aA,show (l.length:Int) - (body.length:Int)=((l.length - body.length:Nat):Int) by omega];refine s_if _ (t_or ([45,32].isPrefixOf body) ([43,32].isPrefixOf body) (dU body [45,32] hb rfl (λR' h=>⟨_,rfl,h⟩)) (λ_ H1 s1=>dU body [43,32] hb rfl (λR' h=>⟨_,rfl,h⟩))) (λH0 s0 c=>?_) (λH0 s0 c=>?_)
 ·have c':[45,32].isPrefixOf body=true ∨ [43,32].isPrefixOf body=true:=by rwa [Bool.or_eq_true] at c
  have h1:0 < body.length:=by
   rcases c' with c' |c' <;> rw[pre2] at c' <;> exact(List.getElem?_eq_some_iff.mp c'.1).1
  refine ⟨_,rfl,_,rfl,_,_,_,rfl,rfl,bigS hb,at_S h1,_,rfl,_,rfl,_,rfl,bigS hb,body.drop 2,by rw[show Txt.slice (S body) (some 2) none=_ from dF body 2];rfl,by rw[l13];omega,
   λH1 s1=>⟨bg4,λr hr1=>?_⟩⟩
  refine q _ _ ((s0.trans s1).trans (ac hr1 _)) ?_;unfold iO;simp only[];rw[<- y0,if_pos c'];show upd _ _ _ _=_;rw[aa];have e0:body.headD 0=body.getD 0 0:=by cases body <;> rfl
  rw[e0];rfl
 ·have c':¬ ([45,32].isPrefixOf body=true ∨ [43,32].isPrefixOf body=true):=by
   intro z;rw[Bool.or_eq_false_iff] at c;rcases z with z |z
   ·rw[z] at c;exact Bool.noConfusion c.1
   ·rw[z] at c;exact Bool.noConfusion c.2
  refine⟨_,rfl,_,rfl,body,rfl,hb,λH1 s1=>⟨bg3,λr hr1=>?_⟩⟩;refine q _ _ ((s0.trans s1).trans (ac hr1 _)) ?_;unfold iO;simp only[];rw[<- y0,if_neg c'];show upd _ _ _ _=_;rw[aa];rfl
abbrev va:Stmt:=top 34
def vb (F:Fun K "sort_of" "sort_of" va f fd)(T:Tx mg)(Df:Def P w K mg base 2 "tidy" ["text"] spTidy)(DH:Def P w K mg base 1 "rest_of_quote" ["row"] spRest)(DI:Def P w K mg base 1 "heading_level" ["bare"] spHead)
  (DJ:Def P w K mg base 2 "is_cells" ["bare"] spIsC)(DK:Def P w K mg base 3 "split_cells" ["text"] spCells)(DL:Def P w K mg base 3 "definition_of" ["bare"] (spDef K))(DM:Def P w K mg base 3 "item_or_plain" ["bare"] (spItem K)):
  FnOk P w K mg base CX0 4 f fd ["row"] (spSort K):=by
 have sc:FnScope ["row","bare","level","definition"] ["row"] (ad va):=mkS;refine F.oks sc λ{_ _ _ s _ _}H Q hr h=>?_;obtain⟨l,rfl,hl,q⟩:=h;refine ap (xbc (xst (i:=1) sc.nd (xm plainAttrs_str slot_str_rstrip type_str_rstrip ga (xv 0) (xac xstr xa0)))
  (xbc (xif (ay bx (xv 1) xstr (al _)) (xb1 (xret (xtup (xac xstr xa0)))) xb0)
  (xbc (xif (bv (xm plainAttrs_str slot_str_startswith type_str_startswith aP (xv 1) (xac xstr xa0))) (xb1 (xret (xtup (xac xstr (xac (xcd DH hr (xac (xv 0) xa0)) xa0))))) xb0)
  (xbc (xif (ay bx (xv 1) (xgS T.q12) (al _)) (xb1 (xret (xtup (xac xstr xa0)))) xb0)
  (xbc (xst (i:=2) sc.nd (xcd DI hr (xac (xv 1) xa0)))
  (xbc (xif (ay oA (xv 2) xint (al _)) (xb1 (xret (xtup (xac xstr (xac (xv 2) (xac (xcd Df hr (xac (xsl bt (xv 1) (xo1 (xv 2)) xo0) xa0)) xa0)))))) xb0)
  (xbc (xif (bv (xcd DJ hr (xac (xv 1) xa0))) (xb1 (xret (xtup (xac xstr (xac (xcd DK hr (xac (xsl bt (xv 1) (xo1 xint) (xo1 (xun fV xint))) xa0)) xa0))))) xb0)
  (xbc (xst (i:=3) sc.nd (xcd DL hr (xac (xv 1) xa0)))
  (xbc (xif (ay fg (xv 3) xnon (al _)) (xb1 (xret (xv 3))) xb0)
  (xb1 (xret (xcd DM hr (xac (xv 1) xa0))))))))))))) ?_
 refine⟨_,rfl,rfl,_,_,rfl,rfl,bigS hl,?_⟩
 try dsimp only[tAsg.K0,tDrop.K0,Ends.to_nx,Ends.to_rt,tSeq,ah]
 rw[show Txt.rstripChars (S l) (Str.ofString " ")=S (aR l) from mw l [32]];have hbl:=my l;obtain⟨b,hb⟩:∃b,b=aR l:=⟨_,rfl⟩;rw[<- hb] at hbl ⊢;have hbl:b.length<=1000000:=by omega
 have mk:∀(r:Srt) ,aL l=r->∀p H',Same H H'->SrtAt K H' p r->Q (.ref p) H':=λr e p H' s' h=>q p H' s' (by rw[e];exact h);refine s_if _ (t_eq b [] rfl (λR' h=>⟨_,rfl,h⟩)) (λH0 s0 c=>?_) (λH0 s0 c=>?_)
 ·have c:=of_decide_eq_true c;refine⟨bg1,λr hr1=>mk .empty ?_ _ _ (s0.trans (ac hr1 _)) aa⟩;unfold aL;simp only[];rw[<- hb,if_pos c]
 have c1:=of_decide_eq_false c
 try dsimp only[Ends.to_nx,Ends.to_rt,iz]
 refine s_if _ (dU b [62] hbl rfl (λR' h=>⟨_,rfl,h⟩)) (λH1 s1 c=>?_) (λH1 s1 c2=>?_)
 ·refine⟨_,rfl,l,rfl,hl,bg2,λr hr1=>mk (.quote (gY l)) ?_ _ _ ((s0.trans s1).trans (ac hr1 _)) aa⟩;unfold aL;simp only[];rw[<- hb,if_neg c1,if_pos c]
 have c2:=Bool.eq_false_iff.mp c2
 try dsimp only[Ends.to_nx,Ends.to_rt,iz]
 refine s_if _ (t_eq b [126,126,126] rfl (λR' h=>⟨_,rfl,h⟩)) (λH2 s2 c=>?_) (λH2 s2 c3=>?_)
 ·have c:=of_decide_eq_true c;refine⟨bg1,λr hr1=>mk .fence ?_ _ _ (((s0.trans s1).trans s2).trans (ac hr1 _)) aa⟩;unfold aL;simp only[];rw[<- hb,if_neg c1,if_neg c2,if_pos c]
 have c3:=of_decide_eq_false c3
 try dsimp only[Ends.to_nx,Ends.to_rt,iz]
 have s02:=(s0.trans s1).trans s2;refine⟨_,rfl,b,rfl,hbl,?_⟩;refine⟨_,rfl,_,_,rfl,rfl,_,rfl,?_⟩;refine ite2 (λc=>?_) (λc4=>?_)
 ·have c:=of_decide_eq_true c;refine⟨_,rfl,_,rfl,_,rfl,_,rfl,_,rfl,bigS hbl,b.drop (cV b),by rw[dF];rfl,by rw[l13];omega,λH3 s3=>⟨bg3,λr hr1=>mk (.heading (cV b) (bR (b.drop (cV b)))) ?_ _ _ ((s02.trans s3).trans (ac hr1 _)) aa⟩⟩;unfold aL;simp only[];rw[<- hb,if_neg c1,if_neg c2,if_neg c3,if_pos nofun]
 have c4:¬ cV b > 0:=by
  have:=of_decide_eq_false (Bool.eq_false_iff.mpr c4);omega
 try dsimp only[Ends.to_nx,Ends.to_rt,iz]
 refine⟨_,rfl,b,rfl,hbl,_,rfl,?_⟩;refine ite2 (λc=>?_) (λc5=>?_)
 ·have h2:2<=b.length:=by
   unfold bf at c;rw[Bool.and_eq_true,Bool.and_eq_true] at c;exact of_decide_eq_true c.1.1
  refine⟨_,rfl,_,rfl,_,rfl,_,rfl,_,rfl,bigS hbl,(b.drop 1).take (b.length - 2),?_,by rw[l30,l13];omega,λr H3 s3 hr3 er=>⟨bg2,λp hp=>?_⟩⟩
  ·show [V.str (Txt.slice (S b) (some 1) (some (-1)))]=_;rw[gi,o8 b h2]
  ·have hrp:r≠p:=λz=>by rw[<- z,er] at hp;cases hp
   refine mk (.cells (cP ((b.drop 1).take (b.length - 2)))) ?_ _ _ ((s02.trans s3).trans (ac hp _)) ⟨r,aa,by rw[ag hrp];exact er⟩;unfold aL;simp only[];rw[<- hb,if_neg c1,if_neg c2,if_neg c3,if_neg c4,if_pos c]
 try dsimp only[Ends.to_nx,Ends.to_rt,iz]
 refine⟨_,rfl,b,rfl,hbl,λv H3 s3 hv=>?_⟩;refine⟨_,rfl,rfl,_,rfl,?_⟩;have es:aL l=match defC b with |some d=>d |none=>iO b:=by
  unfold aL;simp only[];rw[<- hb,if_neg c1,if_neg c2,if_neg c3,if_neg c4,if_neg c5]
  all_goals (cases defC b <;> rfl)
 cases hd:defC b with
 |some d=>
  rw[hd] at hv es;obtain⟨p,rfl,hp⟩:=hv;exact⟨_,rfl,mk d es p H3 (s02.trans s3) hp⟩
 |none=>
  rw[hd] at hv es;cases hv;exact⟨_,rfl,b,rfl,hbl,λp H4 s4 h4=>mk _ es p H4 ((s02.trans s3).trans s4) h4⟩
end
end K15
namespace Lm
def b5 (l:List Nat):Bool := !(l.takeWhile ([45]:List Nat).contains).isEmpty&&(l.dropWhile ([45]:List Nat).contains==[]||l.dropWhile ([45]:List Nat).contains==[58])
def pq (l:List Nat):List Nat:=if l.getLast? = some 58 then l.dropLast else l
def sj (l:List Nat):b5 l=true ↔ pq l≠[]/\∀c∈pq l,c=45:=by
 have sp:l.takeWhile ([45]:List Nat).contains++l.dropWhile ([45]:List Nat).contains=l:=l54;have tw:∀c∈l.takeWhile ([45]:List Nat).contains,c=45:=by
  intro c hc;have:=List.all_takeWhile (p:=([45]:List Nat).contains) (l:=l);have:=l22.mp this c hc;simpa using this
 have dh:∀y t,l.dropWhile ([45]:List Nat).contains=y::t->y≠45:=by
  intro y t e hy;have:=List.head?_dropWhile_not ([45]:List Nat).contains l;rw[e] at this;simp[hy] at this
 have hr:b5 l=true ↔ l.takeWhile ([45]:List Nat).contains≠[]/\(l.dropWhile ([45]:List Nat).contains=[] ∨ l.dropWhile ([45]:List Nat).contains=[58]):=by
  unfold b5;simp
 rw[hr];generalize l.takeWhile ([45]:List Nat).contains=a at *;generalize l.dropWhile ([45]:List Nat).contains=b at *;subst sp;unfold pq;have ha:∀x,a.getLast? = some x->x=45:=λx hx=>tw x (List.mem_of_getLast? hx);cases b with
 |nil=>
  rw[l17,if_neg (λz=>by have:=ha _ z;omega)];exact⟨λh=>⟨h.1,tw⟩,λh=>⟨h.1, .inl rfl⟩⟩
 |cons y t=>
  have hy:=dh y t rfl;cases t with
  |nil=>
   rw[show (a++[y]).getLast? = some y from List.getLast?_concat];by_cases h:y=58
   ·subst h;rw[if_pos (by rfl),List.dropLast_concat];exact⟨λh=>⟨h.1,tw⟩,λh=>⟨h.1, .inr rfl⟩⟩
   ·rw[if_neg (by simpa using h)];constructor
    ·rintro⟨_,h1 |h1⟩
     ·cases h1
     ·exact absurd (by simpa using h1) h
    ·rintro⟨_,h2⟩;exact absurd (h2 y (by simp)) hy
  |cons z t=>
   constructor
   ·rintro⟨_,h1 |h1⟩
    ·cases h1
    ·simp at h1
   ·rintro⟨_,h2⟩;exfalso;apply hy;apply h2;split
    ·rw[List.dropLast_append_of_ne_nil (by simp)];simp
    ·simp
open PySem Builtin.Str
def tJ (l:List Nat)(c:Nat):Txt.endswith (S l) (S [c])=decide (l.getLast? = some c):=by
 unfold Txt.endswith;rw[gg,aA,aA,l67];rw[Bool.eq_iff_iff,Bool.and_eq_true,decide_eq_true_iff,decide_eq_true_iff,decide_eq_true_iff];rcases l57 l with rfl |⟨q,x,rfl⟩
 ·simp
 ·rw[l68,List.getLast?_concat,l6];show q.length+1 ≥ 1/\((q++[x]).drop (q.length+1 - 1)).take 1=[c] ↔ _;rw[l71,l48];simp
def wR (d:List Nat):d.dropWhile ([45]:List Nat).contains=[] ↔ ∀c∈d,c=45:=by
 induction d with
 |nil=>simp
 |cons x r ih=>
  by_cases h:x=45
  ·subst h;rw[List.dropWhile_cons_of_pos (by simp),ih];simp
  ·rw[List.dropWhile_cons_of_neg (by simpa using h)];simp[h]
def pw (d:List Nat):Txt.stripChars (S d) (S [45])=S [] ↔ ∀c∈d,c=45:=by
 have e:(S [45]).cps.contains=([45]:List Nat).contains:=by funext c;simp
 have tl:=congrArg List.length (l54 (p:=([45]:List Nat).contains) (l:=d));rw[l6] at tl;have hd:d.drop (d.takeWhile ([45]:List Nat).contains).length=d.dropWhile ([45]:List Nat).contains:=by
  conv=>lhs;arg 2;rw[<- l54 (p:=([45]:List Nat).contains) (l:=d)]
  rw[l48]
 unfold Txt.stripChars Txt.stripBy;rw[e];have h0:stripLo ([45]:List Nat).contains true (S d)=(d.takeWhile ([45]:List Nat).contains).length:=by simp[stripLo]
 have h1:stripHi ([45]:List Nat).contains true (S d) (d.takeWhile ([45]:List Nat).contains).length=d.length - ((d.dropWhile ([45]:List Nat).contains).reverse.takeWhile ([45]:List Nat).contains).length:=by
  unfold stripHi;rw[if_pos rfl,aA,b7,hd]
 have hz:((d.dropWhile ([45]:List Nat).contains).reverse.takeWhile ([45]:List Nat).contains).length<=(d.dropWhile ([45]:List Nat).contains).length:=by
  have:=(List.takeWhile_sublist (p:=([45]:List Nat).contains) (l:=(d.dropWhile ([45]:List Nat).contains).reverse)).length_le;rw[l82] at this;exact this
 constructor
 ·intro h;rw[<- wR];split at h
  ·have:=fH h;rw[this];rfl
  ·rw[stripped,h0,h1] at h;have h:=congrArg (λx:Str=>x.cps.size) h;unfold strSub at h;simp only[Array.size_extract,l26,l25] at h;rcases l57 (d.dropWhile ([45]:List Nat).contains) with q |⟨a,x,q⟩
   ·exact q
   ·exfalso;have hne:d.dropWhile ([45]:List Nat).contains≠[]:=by rw[q];simp
    have hlt:((d.dropWhile ([45]:List Nat).contains).reverse.takeWhile ([45]:List Nat).contains).length < (d.dropWhile ([45]:List Nat).contains).length:=by
     refine Nat.lt_of_le_of_ne hz λz=>?_;have j9:(d.dropWhile ([45]:List Nat).contains).reverse.takeWhile ([45]:List Nat).contains=(d.dropWhile ([45]:List Nat).contains).reverse:=
      (List.takeWhile_sublist (p:=([45]:List Nat).contains)).eq_of_length (by rw[z,l82])
     cases hw:d.dropWhile ([45]:List Nat).contains with
     |nil=>exact hne hw
     |cons y t=>
      have hy:y∈(d.dropWhile ([45]:List Nat).contains).reverse:=by rw[hw];simp
      rw[<- j9] at hy;have y1:=o6 hy;have y2:=kY hw;rw[y1] at y2;cases y2
    omega
 ·intro h;have q:=(wR d).mpr h;have tl':(d.takeWhile ([45]:List Nat).contains).length=d.length:=by rw[q] at tl;simpa using tl
  split
  ·rename_i hs;rw[stripSame,h0,tl'] at hs;rw[Bool.and_eq_true,beq_iff_eq] at hs;rw[l74 hs.1]
  ·rw[stripped,h0,h1,q];unfold strSub;rw[tl'];simp
end Lm
namespace K15
open PySem L2 Lm Lw
section
variable {K:Frag}{σ:St}{H:Hp}{ta tb:TE}{a b:List Nat}
def yi (h1 : Ev ta σ H (vS a)) (h2 : Ev tb σ H (vS b)) : Ev (tOp rEq ta tb) σ H (.bl (decide (a = b))) := fun R r => h1 _ (h2 _ ⟨rfl,by
 have:decide (vS a=vS b)=decide (a=b):=decide_eq_decide.mpr ⟨λh=>fH (V.str.inj h),λh=>by rw[h]⟩;rw[this];exact r⟩)
def yj (h1 : Ev ta σ H (vS a)) (h2 : Ev tb σ H (vS b)) : Ev (tOp rNe ta tb) σ H (.bl (decide (a ≠ b))) := fun R r => h1 _ (h2 _ ⟨rfl,by
 have:(!decide (vS a=vS b))=decide (a≠b):=by
  rw[<- decide_not];exact decide_eq_decide.mpr ⟨λh e=>h (by rw[e]),λh e=>h (fH (V.str.inj e))⟩
 rw[this];exact r⟩)
def vc {p q : Bool} (h1 : Ev ta σ H (.bl p)) (h2 : p = true -> Ev tb σ H (.bl q)) : Ev (tAndV ta tb) σ H (.bl (p && q)) := fun R r => h1 _ ⟨p,rfl,by
 cases p with
 |false=>exact iteF r
 |true=>exact iteT (h2 rfl _ r)⟩
def yk {f:Str->Str->V}{y:Str}(h:Ev ta σ H (vS a))(hl:a.length<=1000000):Ev (tBM K "str" (rS2 f) ta (tCons (tC (.str y)) tNil)) σ H (f (S a) y):=λR r=>h _ ⟨rfl,_,_,rfl,rfl,bigS hl,r⟩
end
section
abbrev vd:Stmt:=top 29
inductive spRule (vs:List V)(H:Hp)(Q:VK)(u3:XK):Prop
 |mk (l:List Nat)(_:vs=[vS l])(_:l.length<=1000000)(_:∀H',Same H H'->Q (.bl (b5 l)) H')
def ve (F:Fun K "is_rule" "is_rule" vd f fd):FnOk P w K mg base CX0 1 f fd ["text"] spRule:=by
 have sc:FnScope ["text","dashes"] ["text"] (ad vd):=mkS;refine F.oks sc λH Q hr h=>?_;obtain⟨l,rfl,hl,q⟩:=h;refine ap (xbc (xst (i:=1) sc.nd (xifE (bv (xm plainAttrs_str PySem.F.slot_str_endswith PySem.F.type_str_endswith gb (xv 0) (xac xstr xa0))) (xsl bt (xv 0) xo0 (xo1 (xun fV xint))) (xv 0)))
  (xb1 (xret (uJ (xcmp gV (xv 1) xstr (al _)) (xone (xcmp bx (xm plainAttrs_str PySem.F.slot_str_strip PySem.F.type_str_strip mr (xv 1) (xac xstr xa0)) xstr (al _))))))) ?_
 have key:∀d,d=pq l->Ev (tAndV (tOp rNe (tVar 1) (tC (.str (Str.ofString "")))) (tOp rEq (tBM K "str" (rS2 λz y => .str (Txt.stripChars z y)) (tVar 1) (tCons (tC (.str (Str.ofString "-"))) tNil)) (tC (.str (Str.ofString ""))))) [some (vS l),some (vS d)] H (.bl (b5 l)):=by
  intro d hd;have hdl:d.length<=1000000:=by
   rw[hd];unfold pq;split
   ·rw[List.length_dropLast];omega
   ·exact hl
  have e:b5 l=(decide (d≠[])&&decide ((Txt.stripChars (S d) (S [45])).cps.toList=[])):=by
   rw[Bool.eq_iff_iff,sj,<- hd,Bool.and_eq_true,decide_eq_true_iff,decide_eq_true_iff,<- pw];refine and_congr_right λ_=>⟨λz=>by rw[z],λz=>?_⟩;rw[<- S_of (Txt.stripChars (S d) (S [45])),z]
  rw[e];refine vc (yj (ev_v rfl) (tH (b:=[]) rfl)) λ_=>yi ?_ (tH (b:=[]) rfl);rw[show vS (Txt.stripChars (S d) (S [45])).cps.toList=V.str (Txt.stripChars (S d) (S [45])) by show V.str (S _)=_;rw[S_of]];exact yk (f:=λz y => .str (Txt.stripChars z y)) (ev_v rfl) hdl
 refine⟨_,rfl,rfl,_,_,rfl,rfl,bigS hl,_,rfl,?_⟩;rw[show Txt.endswith (S l) (Str.ofString ":")=decide (l.getLast? = some 58) from tJ l 58];refine ite2 (λe=>?_) (λe=>?_)
 ·refine pd (σ:=[some (vS l),none]) (H:=H) hl (ev_v (k:=0) rfl) yb (iS (ya (i:=1) (g:=λi => .int (-i)) ev_c rfl)) (rY l) _ ?_;exact key l.dropLast (if_pos (of_decide_eq_true e)).symm _ (q H (Same.refl H))
 ·refine⟨_,rfl,?_⟩;exact key l (if_neg (λz=>e (decide_eq_true z))).symm _ (q H (Same.refl H))
end
end K15
namespace L2
open PySem PySem.Spec PyProof.Rows
end L2
namespace Lm
open PySem PySem.Builtin PySem.Builtin.Str PySem.StrLaws
end Lm
namespace Lw
open PySem L2 Lm PySem.Builtin.Str
def vf (c:Nat):lo1 (lo1 c)=lo1 c:=by
 unfold lo1;split
 ·rw[if_neg nofun]
 ·rfl
def sk:∀c∈nameSigns,nameSigns.contains (lo1 c)=true:=by decide
def ik {l:List Nat}(h:aH l=true):aH (bb l)=true/\bb (bb l)=bb l:=by
 unfold aH at h ⊢;rw[Bool.and_eq_true,Bool.and_eq_true] at h;obtain⟨⟨h1,h2⟩,h3⟩:=h;constructor
 ·unfold bb;rw[l0,h1,h2,Bool.true_and,Bool.true_and,l22];intro c hc;obtain⟨x,hx,rfl⟩:=l20.mp hc;exact sk x (List.contains_iff_mem.mp (l22.mp h3 x hx))
 ·unfold bb;rw[l19];exact l50 λc _=>vf c
open PySem L2 Lm
def takenC:List Nat:=[92,42,96,91,93,124,45,43,61,62,126,58,94]
def az:List Nat->Bool
 |92::c::_=>takenC.contains c
 |_=>false
def nxtC:List Nat->Option Nat
 | []=>none
 | [x]=>if x=93 then some 0 else none
 |x::y::r=>if x=92/\takenC.contains y=true then (nxtC r).map (· + 2) else if x=93 then some 0 else (nxtC (y::r)).map (· + 1)
def freeC:List Nat->List Nat
 | []=>[]
 | [x]=>[x]
 |x::y::r=>if x=92/\takenC.contains y=true then y::freeC r else x::freeC (y::r)
inductive Pc where
 |sign (c:Nat)
 |star
 |code (l:List Nat)
 |note (n:List Nat)
 |link (w n:List Nat)
def cutAt (c:Nat):List Nat->Option (List Nat×List Nat)
 | []=>none
 |x::r=>if x=c then some ([],r) else (cutAt c r).map λ(a,b)=>(x::a,b)
def nameAt (c:Nat)(l:List Nat):Option (List Nat×List Nat):=match cutAt c (l.take 13) with
 |some (a,_)=>if aH a then some (bb a,l.drop (a.length+1)) else none
 |none=>none
def b6 (r:List Nat):Option (Pc×List Nat):=match r with
 |94::r=>(nameAt 93 r).map λ(n,r)=>(.note n,r)
 |_=>none
def bw (r:List Nat):Option (Pc×List Nat):=match nxtC r with
 |some (k+1)=>match r.drop (k+2) with
  |40::r2=>(nameAt 41 r2).map λ(n,r3)=>(.link (freeC (r.take (k+1))) n,r3)
  |_=>none
 |_=>none
def bV (r:List Nat):Option (Pc×List Nat):=match cutAt 96 r with
 |some (x::a,b)=>some (.code (x::a),b)
 |_=>none
def gv:List Nat->Option (Pc×List Nat)
 | []=>none
 |x::r=>
  if az (x::r) then some (.sign (r.headD 0),r.tail)
  else if x=42 then some (.star,r)
  else if x=96 then some ((bV r).getD (.sign 96,r))
  else if x=91 then some (((b6 r).or (bw r)).getD (.sign 91,r))
  else some (.sign x,r)
theorem cutAt_eq {c:Nat}:∀{l a b:List Nat},cutAt c l=some (a,b)->l=a++c::b/\c∉a
 | [],a,b,h=>by cases h
 |x::r,a,b,h=>by
  unfold cutAt at h;split at h
  ·rename_i e;cases h;subst e;exact⟨rfl,λz=>nomatch z⟩
  ·rename_i e;cases hr:cutAt c r with
   |none=>rw[hr] at h;cases h
   |some p=>
    obtain⟨a',b'⟩:=p;rw[hr] at h;cases h;obtain⟨h1,h2⟩:=cutAt_eq hr;exact ⟨by rw[h1];rfl,λz=>by
     rcases l9.mp z with z |z
     ·exact e z.symm
     ·exact h2 z⟩
theorem cutAt_none {c:Nat}:∀{l:List Nat},cutAt c l=none ↔ c∉l
 | []=>⟨(λ_ z=>nomatch z),λ_=>rfl⟩
 |x::r=>by
  unfold cutAt;by_cases e:x=c
  ·rw[if_pos e];exact⟨(λz=>nomatch z),λz=>absurd (by rw[e];exact l8) z⟩
  ·rw[if_neg e];have ih:=cutAt_none (c:=c) (l:=r);cases hr:cutAt c r with
   |none=>
    refine⟨λ_ z=>?_,λ_=>rfl⟩;rcases l9.mp z with z |z
    ·exact e z.symm
    ·exact ih.mp hr z
   |some p=>
    refine⟨(λz=>nomatch z),λz=>?_⟩;have:c∉r:=λm=>z (l7 _ m);rw[ih.mpr this] at hr;cases hr
def ke {c:Nat}{l n r:List Nat}(h:nameAt c l=some (n,r)):r.length < l.length:=by
 unfold nameAt at h;split at h
 ·rename_i a b hc;split at h
  ·cases h;obtain⟨h1,_⟩:=cutAt_eq hc;have:=congrArg List.length h1;rw[l30,l6,l4] at this;rw[l13];omega
  ·cases h
 ·cases h
def iX {s r:List Nat}{p:Pc}(h:gv s=some (p,r)):r.length < s.length:=by
 cases s with
 |nil=>cases h
 |cons x t=>
  rw[l4];have h:(if az (x::t) then some (Pc.sign (t.headD 0),t.tail) else if x=42 then some (Pc.star,t) else if x=96 then some ((bV t).getD (.sign 96,t)) else if x=91 then some (((b6 t).or (bw t)).getD (.sign 91,t)) else some (Pc.sign x,t))=some (p,r):=h;split at h
  ·cases h;have:t.tail.length<=t.length:=by rw[List.length_tail];omega
   omega
  ·split at h
   ·cases h;omega
   ·split at h
    ·cases hc:bV t with
     |none=>rw[hc] at h;cases h;omega
     |some q=>
      rw[hc] at h;cases h;unfold bV at hc;split at hc
      ·rename_i y a b he;cases hc;have:=congrArg List.length (cutAt_eq he).1;rw[l6,l4,l4] at this;omega
      ·cases hc
    ·split at h
     ·cases hm:b6 t with
      |some q=>
       rw[hm] at h;cases h;unfold b6 at hm;split at hm
       ·cases hn:nameAt 93 _ with
        |none=>rw[hn] at hm;cases hm
        |some q=>
         rw[hn] at hm;cases hm;have:=ke hn;rw[l4];omega
       ·cases hm
      |none=>
       rw[hm] at h;cases hl:bw t with
       |none=>rw[hl] at h;cases h;omega
       |some q=>
        rw[hl] at h;cases h;unfold bw at hl;split at hl
        ·split at hl
         ·rename_i r2 hd;cases hn:nameAt 41 r2 with
          |none=>rw[hn] at hl;cases hl
          |some q=>
           rw[hn] at hl;cases hl;have h1:=ke hn;have h2:=congrArg List.length hd;rw[l13,l4] at h2;omega
         ·cases hl
        ·cases hl
     ·cases h;omega
def aC (s:List Nat):List Pc:=match h:gv s with
 |none=>[]
 |some (p,r)=>p::aC r
termination_by s.length
decreasing_by exact iX h
def bO:aC []=[]:=by
 unfold aC;rfl
def bW {s r:List Nat}{p:Pc}(h:gv s=some (p,r)):aC s=p::aC r:=by
 rw[aC];split
 ·rename_i e;rw[h] at e;cases e
 ·rename_i e;rw[h] at e;cases e;rfl
def cG (o:Nat):Option Nat->Int
 |none => -1
 |some k=>((o+k:Nat):Int)
def clGo (o:Nat):List Nat->List Int
 | []=>[]
 | [_]=>[-1]
 |x::y::r=>if x=92/\takenC.contains y=true then cG (o+2) (nxtC r)::cG (o+2) (nxtC r)::clGo (o+2) r else cG (o+1) (nxtC (y::r))::clGo (o+1) (y::r)
def takes_iff {x y:Nat}{r:List Nat}:az (x::y::r)=true ↔ x=92/\takenC.contains y=true:=by
 by_cases e:x=92
 ·subst e;exact⟨λh=>⟨rfl,h⟩,λh=>h.2⟩
 ·refine⟨λh=>?_,λh=>absurd h.1 e⟩;exfalso;unfold az at h;split at h
  ·rename_i z;exact e (List.cons.inj z).1
  ·cases h
def pD {o x y:Nat}{r:List Nat}(h:az (x::y::r)=true):clGo o (x::y::r)=cG (o+2) (nxtC r)::cG (o+2) (nxtC r)::clGo (o+2) r:=by
 show (if x=92/\takenC.contains y=true then _ else _)=_;rw[if_pos (takes_iff.mp h)]
def mH {o x:Nat}{r:List Nat}(h:az (x::r)=false):clGo o (x::r)=cG (o+1) (nxtC r)::clGo (o+1) r:=by
 cases r with
 |nil=>rfl
 |cons y r=>
  show (if x=92/\takenC.contains y=true then _ else _)=_;rw[if_neg λz=>by rw[takes_iff.mpr z] at h;cases h]
def sn {x y:Nat}{r:List Nat}(h:az (x::y::r)=true):nxtC (x::y::r)=(nxtC r).map (· + 2):=by
 show (if x=92/\takenC.contains y=true then _ else _)=_;rw[if_pos (takes_iff.mp h)]
def lm {r:List Nat}:nxtC (93::r)=some 0:=by
 cases r with
 |nil=>rfl
 |cons y r=>
  show (if (93:Nat)=92/\takenC.contains y=true then _ else if (93:Nat)=93 then some 0 else _)=_;rw[if_neg λz=>absurd z.1 ∅,if_pos rfl]
def vg {x:Nat}{r:List Nat}(h:az (x::r)=false)(hx:x≠93):nxtC (x::r)=(nxtC r).map (· + 1):=by
 cases r with
 |nil=>
  show (if x=93 then some 0 else none)=_;rw[if_neg hx];rfl
 |cons y r=>
  show (if x=92/\takenC.contains y=true then _ else if x=93 then some 0 else _)=_;rw[if_neg (λz=>by rw[takes_iff.mpr z] at h;cases h),if_neg hx]
def kf (o k:Nat)(v:Option Nat):cG o (v.map (· + k))=cG (o+k) v:=by
 cases v with
 |none=>rfl
 |some j=>show ((o+(j+k):Nat):Int)=((o+k+j:Nat):Int);omega
structure ClAt (t:List Nat)(p n:Nat)(pre:List Int):Prop where
 eq:clGo 0 t=pre++clGo p (t.drop p)
 len:pre.length=p
 le:n<=p
 wait:∀v∈pre.drop n,v=cG p (nxtC (t.drop p))
def ClAt.start (t:List Nat):ClAt t 0 0 []:=⟨rfl,rfl,l5 0,λ_ z=>nomatch z⟩
def ClAt.take {t:List Nat}{p n:Nat}{pre:List Int}(h:ClAt t p n pre)(hk:az (t.drop p)=true):∃pre',ClAt t (p+2) n pre'/\pre'.take n=pre.take n/\p+2<=t.length:=by
 obtain⟨y,r,hy⟩:∃y r,t.drop p=92::y::r:=by
  unfold az at hk;split at hk
  ·rename_i e;exact⟨_,_,e⟩
  ·cases hk
 have hr:t.drop (p+2)=r:=by rw[<- l27,hy];rfl
 have hl:p+2<=t.length:=by
  have:=congrArg List.length hy;rw[l13,l4,l4] at this;omega
 rw[hy] at hk;have hle:=h.le;refine⟨pre++[cG (p+2) (nxtC r),cG (p+2) (nxtC r)],⟨?_,by rw[l6,h.len];rfl,by omega,λv hv=>?_⟩,?_,hl⟩
 ·rw[h.eq,hy,pD hk,hr,l18];rfl
 ·rw[hr];rw[l69 (by rw[h.len];exact h.le)] at hv;rcases l21.mp hv with z |z
  ·rw[h.wait v z,hy,sn hk,kf]
  ·simp only[l9,List.not_mem_nil,or_false] at z;rcases z with z |z <;> exact z
 ·rw[l64 (by rw[h.len];exact h.le)]
def ClAt.one {t:List Nat}{p n:Nat}{pre:List Int}(h:ClAt t p n pre)(hp:p < t.length)(hk:az (t.drop p)=false)(hx:t.getD p 0≠93):∃pre',ClAt t (p+1) n pre'/\pre'.take n=pre.take n:=by
 have hd:=l28 hp;have hg:t.getD p 0=t[p]:=by rw[l23,List.getElem?_eq_getElem hp];rfl
 rw[hg] at hx;rw[hd] at hk;have hle:=h.le;refine⟨pre++[cG (p+1) (nxtC (t.drop (p+1)))],⟨?_,by rw[l6,h.len];rfl,by omega,λv hv=>?_⟩,?_⟩
 ·rw[h.eq,hd,mH hk,l18];rfl
 ·rw[l69 (by rw[h.len];exact h.le)] at hv;rcases l21.mp hv with z |z
  ·rw[h.wait v z,hd,vg hk hx,kf]
  ·exact l14.mp z
 ·rw[l64 (by rw[h.len];exact h.le)]
def ClAt.bar {t:List Nat}{p n:Nat}{pre:List Int}(h:ClAt t p n pre)(hp:p < t.length)(hk:az (t.drop p)=false)(hx:t.getD p 0=93):∃pre',ClAt t (p+1) p pre'/\pre'.take p=pre.take n++List.replicate (p - n) (p:Int):=by
 have hd:=l28 hp;have hg:t.getD p 0=t[p]:=by rw[l23,List.getElem?_eq_getElem hp];rfl
 rw[hg] at hx;rw[hd] at hk;refine⟨pre++[cG (p+1) (nxtC (t.drop (p+1)))],⟨?_,by rw[l6,h.len];rfl,by omega,λv hv=>?_⟩,?_⟩
 ·rw[h.eq,hd,mH hk,l18];rfl
 ·rw[l69 (by rw[h.len];exact l5 _),l41 (by rw[h.len];exact l5 _)] at hv;exact l14.mp hv
 ·rw[l64 (by rw[h.len];exact l5 _),l39 (by rw[h.len];exact l5 _)];have hw:pre.drop n=List.replicate (p - n) (p:Int):=by
   rw[List.eq_replicate_iff];refine⟨by rw[l13,h.len],λv hv=>?_⟩;rw[h.wait v hv,hd,hx,lm];rfl
  rw[<- hw,l56]
def ClAt.fin {t:List Nat}{n:Nat}{pre:List Int}(h:ClAt t t.length n pre):clGo 0 t=pre.take n++List.replicate (t.length - n) (-1):=by
 have e:clGo 0 t=pre:=by rw[h.eq,l45];exact l17 pre
 have hw:pre.drop n=List.replicate (t.length - n) (-1):=by
  rw[List.eq_replicate_iff];refine⟨by rw[l13,h.len],λv hv=>?_⟩;rw[h.wait v hv,l45];rfl
 rw[e,<- hw,l56]
end Lw
namespace L2
open PySem PySem.Spec PyProof.Rows
open Builtin Builtin.Str
def wS (x y:Str)(lo hi:Nat):
  (occurrences x y lo hi 1=[]/\∀i,lo<=i->¬ StrLaws.At x y hi i) ∨
  ∃i r,occurrences x y lo hi 1=i::r/\lo<=i/\StrLaws.At x y hi i/\∀k,lo<=k->k < i->¬ StrLaws.At x y hi k:=by
 rw[StrLaws.occ_eq];rcases StrLaws.occ_first x y hi 1 (l5 1) (List.range' lo (hi+1 - lo)) lo (λi hi=>by have:=List.mem_range'_1.mp hi;omega) with ⟨h0,hn⟩ |⟨pre,a,post,e,h0,ha,hn⟩
 ·refine .inl ⟨by rw[h0],λi hlo hi=>?_⟩;exact hn i (by have:=hi.1;rw[List.mem_range'_1];omega) hi
 ·have hs:=StrLaws.range'_split_from e;refine .inr ⟨a,((forIn (List.range' lo (hi+1 - lo)) ((#[]:Array Nat),lo) (StrLaws.occBody x y hi 1)).run.fst.toList).tail,?_,hs.1,ha,λk hk0 hk=>hn k (hs.2 k hk0 hk)⟩;generalize (forIn (List.range' lo (hi+1 - lo)) ((#[]:Array Nat),lo) (StrLaws.occBody x y hi 1)).run.fst=arr at h0;have h1:arr.toList[0]? = some a:=by simpa using h0
  cases hL:arr.toList with
  |nil=>rw[hL] at h1;cases h1
  |cons b t=>rw[hL] at h1;simp at h1;rw[h1];rfl
def lq (x y:Str)(i j:Int)(t u v v':Tok):Gives («str.find» ⟨[.str x t, .str y u, .int i v, .int j v'],[]⟩) (.int (match occurrences x y (fromIndex x.length i) (min (fromIndex x.length j) x.length) 1 with |k::_=>(k:Int) | [] => -1)):=by
 show Gives (match occurrences x y (fromIndex x.length i) (min (fromIndex x.length j) x.length) 1 with |k::_=>retInt k | []=>(do rule "str.find.not-found";retInt (-1))) _;cases occurrences x y (fromIndex x.length i) (min (fromIndex x.length j) x.length) 1 with
 |nil=>exact .rule (.of_eq rfl)
 |cons k _=>exact .of_eq rfl
end L2
namespace Lm
open PySem L2 Lw Builtin Builtin.Str
def fndC (c:Nat)(l:List Nat)(lo hi:Nat):Int:=match Lw.cutAt c ((l.take hi).drop lo) with
 |some (a,_)=>((lo+a.length:Nat):Int)
 |none => -1
def pE (l:List Nat)(c hi i:Nat)(hh:hi<=l.length):StrLaws.At (S l) (S [c]) hi i ↔ (l.take hi)[i]? = some c:=by
 unfold StrLaws.At;rw[gg,aA,decide_eq_true_eq,List.getElem?_take];show i+1<=hi/\(l.drop i).take 1=[c] ↔ _;constructor
 ·rintro⟨h1,h2⟩;rw[if_pos nofun];have:(l.drop i)[0]? = some c:=by
   have h3:=congrArg (λz:List Nat=>z[0]?) h2;simpa[List.getElem?_take] using h3
  rw[List.getElem?_drop] at this;exact this
 ·intro h;split at h
  ·rename_i hlt;refine⟨by omega,?_⟩;have hl:i < l.length:=by omega
   rw[l28 hl];rw[List.getElem?_eq_getElem hl] at h;rw[Option.some.inj h];rfl
  ·cases h
def pF (l:List Nat)(c lo hi:Nat)(hh:hi<=l.length):(match occurrences (S l) (S [c]) lo hi 1 with |k::_=>(k:Int) | [] => -1)=fndC c l lo hi:=by
 have hg:∀i,lo<=i->((l.take hi)[i]? = ((l.take hi).drop lo)[i - lo]?):=λi h=>by
  rw[List.getElem?_drop];congr 1;omega
 unfold fndC;rcases wS (S l) (S [c]) lo hi with ⟨e,hn⟩ |⟨i,r,e,hlo,hi',hn⟩
 ·rw[e];have:Lw.cutAt c ((l.take hi).drop lo)=none:=by
   rw[Lw.cutAt_none];intro z;obtain⟨k,hk⟩:=List.mem_iff_getElem?.mp z;rw[List.getElem?_drop] at hk;exact hn (lo+k) nofun ((pE l c hi _ hh).mpr hk)
  rw[this]
 ·rw[e];have h1:=(pE l c hi i hh).mp hi';rw[hg i hlo] at h1;cases hc:Lw.cutAt c ((l.take hi).drop lo) with
  |none=>exact absurd (l16 h1) (Lw.cutAt_none.mp hc)
  |some p=>
   obtain⟨a,b⟩:=p;obtain⟨he,ha⟩:=Lw.cutAt_eq hc;show (i:Int)=((lo+a.length:Nat):Int);congr 1;rw[he] at h1;rcases Nat.lt_trichotomy (i - lo) a.length with q |q |q
   ·rw[List.getElem?_append_left q] at h1;exact absurd (l16 h1) ha
   ·omega
   ·exfalso;refine hn (lo+a.length) nofun nofun ((pE l c hi _ hh).mpr ?_);rw[hg _ nofun,he,show lo+a.length - lo=a.length by omega,List.getElem?_append_right (l5 _),l59];rfl
def fM (n k:Nat):fromIndex n (k:Int)=k:=by
 unfold fromIndex;rw[if_neg nofun];omega
section
variable {X:Cx}
inductive rFind3 (x:V)(vs:List V)(H:Hp)(Q:VK):Prop
 |mk (l:List Nat)(c lo:Nat)(_:x=vS l)(_:vs=[vS [c], .int (lo:Int)])(_:Q (.int (fndC c l lo l.length)) H)
inductive rFind4 (x:V)(vs:List V)(H:Hp)(Q:VK):Prop
 |mk (l:List Nat)(c lo hi:Nat)(_:x=vS l)(_:vs=[vS [c], .int (lo:Int), .int (hi:Int)])(_:Q (.int (fndC c l lo (min hi l.length))) H)
inductive rStartsAt (x:V)(vs:List V)(H:Hp)(Q:VK):Prop
 |mk (l y:List Nat)(i:Nat)(_:x=vS l)(_:vs=[vS y, .int (i:Int)])(_:y≠[])(_:Q (.bl (y.isPrefixOf (l.drop i))) H)
def so:MtR X "str.find" rFind3:=by
 intro w9 s σ H x vs v us Q I rx rv h;obtain⟨l,c,lo,rfl,rfl,q⟩:=h;obtain⟨t,rfl⟩:=rx;cases rv with |cons r1 rv=>
 cases rv with |cons r2 rv=>
 cases rv;obtain⟨t1,rfl⟩:=r1;obtain⟨t2,rfl⟩:=r2;refine SC.find3 ?_;have e:Txt.find3 (S l) (S [c]) (lo:Int)=fndC c l lo l.length:=by
  unfold Txt.find3;rw[fM,aA];exact pF l c lo l.length (l5 _)
 rw[e];exact⟨.int _,H,I.tok _,⟨_,rfl⟩,q⟩
def mI:MtR X "str.find" rFind4:=by
 intro w9 s σ H x vs v us Q I rx rv h;obtain⟨l,c,lo,hi,rfl,rfl,q⟩:=h;obtain⟨t,rfl⟩:=rx;cases rv with |cons r1 rv=>
 cases rv with |cons r2 rv=>
 cases rv with |cons r3 rv=>
 cases rv;obtain⟨t1,rfl⟩:=r1;obtain⟨t2,rfl⟩:=r2;obtain⟨t3,rfl⟩:=r3;refine call_gives F.slot_str_find (typeIs_str _ _ _) F.entry_str_find (F.args_str_find_4 _ _ _ _) (lq _ _ _ _ _ _ _ _) ?_;rw[fM,fM,aA,pF l c lo (min hi l.length) (Nat.min_le_right _ _)];exact⟨.int _,H,I.tok _,⟨_,rfl⟩,q⟩
def gw:MtR X "str.startswith" rStartsAt:=by
 intro w9 s σ H x vs v us Q I rx rv h;obtain⟨l,y,i,rfl,rfl,hy,q⟩:=h;obtain⟨t,rfl⟩:=rx;cases rv with |cons r1 rv=>
 cases rv with |cons r2 rv=>
 cases rv;obtain⟨t1,rfl⟩:=r1;obtain⟨t2,rfl⟩:=r2;refine SC.startswith3 ?_;have e:Txt.startswith3 (S l) (S y) (i:Int)=y.isPrefixOf (l.drop i):=by
  unfold Txt.startswith3;rw[fM,gg,aA,aA,Bool.eq_iff_iff];simp only[Bool.and_eq_true,decide_eq_true_eq,l62];constructor
  ·rintro⟨_,h⟩;exact l83.mpr h.symm
  ·intro h;have h1:=h.length_le;rw[l13] at h1;have h2:0 < y.length:=by cases y with |nil=>exact absurd rfl hy |cons _ _=>simp
   exact⟨by omega,(l83.mp h).symm⟩
 rw[e];exact⟨.bl _,H,I,rfl,q⟩
end
end Lm
namespace Lw
open PySem L2 Lm
def PcAt (c:Cp)(H:Hp)(v:V):Pc->Prop
 | .sign x=>v=vS [x]
 | .star=>v = .non
 | .code l=>∃a,v = .ref a/\P1At c H a (.code (S l))
 | .note n=>∃a,v = .ref a/\P1At c H a (.note (S n))
 | .link w n=>∃a,v = .ref a/\P1At c H a (.link (S w) (S n))
theorem PcAt.same {c:Cp}{H H':Hp}{v:V}(s:Same H H'):∀{p:Pc},PcAt c H v p->PcAt c H' v p
 | .sign _,h=>h
 | .star,h=>h
 | .code _,⟨a,e,h⟩=>⟨a,e,h.same s⟩
 | .note _,⟨a,e,h⟩=>⟨a,e,h.same s⟩
 | .link _ _,⟨a,e,h⟩=>⟨a,e,h.same s⟩
def PcsAt (c:Cp)(H:Hp):List V->List Pc->Prop
 | [],[]=>True
 |v::vs,p::ps=>PcAt c H v p/\PcsAt c H vs ps
 |_,_=>False
theorem PcsAt.same {c:Cp}{H H':Hp}(s:Same H H'):∀{vs:List V} {ps:List Pc},PcsAt c H vs ps->PcsAt c H' vs ps
 | [],[],_=>trivial
 |_::_,_::_,⟨a,b⟩=>⟨a.same s,b.same s⟩
theorem PcsAt.len {c:Cp}{H:Hp}:∀{vs:List V} {ps:List Pc},PcsAt c H vs ps->vs.length=ps.length
 | [],[],_=>rfl
 |_::_,_::_,⟨_,b⟩=>by rw[l4,l4,b.len]
def PcsAt.snoc {c:Cp}{H:Hp}{vs:List V}{ps:List Pc}{v:V}{p:Pc}(h:PcsAt c H vs ps)(k:PcAt c H v p):PcsAt c H (vs++[v]) (ps++[p]):=by
 induction vs generalizing ps with
 |nil=>
  cases ps with
  |nil=>exact⟨k,trivial⟩
  |cons _ _=>exact h.elim
 |cons _ _ ih=>
  cases ps with
  |nil=>exact h.elim
  |cons _ _=>exact⟨h.1,ih h.2⟩
theorem PcsAt.get {c:Cp}{H:Hp}:∀{vs:List V} {ps:List Pc} {i:Nat} {v:V},PcsAt c H vs ps->vs[i]? = some v->∃p,ps[i]? = some p/\PcAt c H v p
 | [],[],_,_,_,e=>by simp at e
 |_::_,_::_,0,_,⟨h,_⟩,e=>by cases e;exact⟨_,rfl,h⟩
 |_::_,_::_,i+1,_,⟨_,b⟩,e=>by
  obtain⟨p,h1,h2⟩:=b.get (i:=i) (by simpa using e);exact⟨p,by simpa using h1,h2⟩
def Fnd (c:Cp)(n:Nat)(H:Hp)(Q:VK):Option (Pc×List Nat)->Prop
 |none=>∀H',Same H H'->Q .non H'
 |some (pc,r)=>∀tp v H',Same H H'->H' tp=some (.tup [v, .int ((n - r.length:Nat):Int)])->PcAt c (dif H H') v pc->Q (.ref tp) H'
def gx {c:Nat}{l n r:List Nat}(h:nameAt c l=some (n,r)):∃a b,cutAt c (l.take 13)=some (a,b)/\l=a++c::r/\aH a=true/\n=bb a:=by
 unfold nameAt at h;split at h
 ·rename_i a b hc;split at h
  ·rename_i hn;cases h;refine⟨a,b,hc,?_,hn,rfl⟩;obtain⟨h1,_⟩:=cutAt_eq hc;have h2:l=a++c::(b++l.drop 13):=by
    conv=>lhs;rw[<- l56 13 l,h1]
    rw[l18];rfl
   have h3:l.drop (a.length+1)=b++l.drop 13:=by
    conv=>lhs;rw[h2]
    rw[<- l27,l48];rfl
   rw[h3];exact h2
  ·cases h
 ·cases h
theorem il:∀{r:List Nat} {k:Nat},nxtC r=some k->∃u v,r=u++93::v/\u.length=k
 | [],k,h=>by cases h
 | [x],k,h=>by
  have h:(if x=93 then some 0 else none)=some k:=h;split at h
  ·rename_i e;cases h;subst e;exact⟨[],[],rfl,rfl⟩
  ·cases h
 |x::y::r,k,h=>by
  have h:(if x=92/\takenC.contains y=true then (nxtC r).map (· + 2) else if x=93 then some 0 else (nxtC (y::r)).map (· + 1))=some k:=h;split at h
  ·cases hr:nxtC r with
   |none=>rw[hr] at h;cases h
   |some j=>
    rw[hr] at h;cases h;obtain⟨u,v,e,hl⟩:=il hr;exact⟨x::y::u,v,by rw[e];rfl,by rw[l4,l4,hl]⟩
  ·split at h
   ·rename_i e;cases h;subst e;exact⟨[],_,rfl,rfl⟩
   ·cases hr:nxtC (y::r) with
    |none=>rw[hr] at h;cases h
    |some j=>
     rw[hr] at h;cases h;obtain⟨u,v,e,hl⟩:=il hr;exact⟨x::u,v,by rw[e];rfl,by rw[l4,hl]⟩
def Al (t:List Nat)(p:Nat):Prop:=∃pre,clGo 0 t=pre++clGo p (t.drop p)/\pre.length=p
def Al.zero (t:List Nat):Al t 0:=⟨[],rfl,rfl⟩
def bE {s:List Nat}(h:az s=true):∃y r,s=92::y::r:=by
 unfold az at h;split at h
 ·exact⟨_,_,rfl⟩
 ·cases h
def Al.take {t:List Nat}{p:Nat}(h:Al t p)(hk:az (t.drop p)=true):Al t (p+2):=by
 obtain⟨pre,e,hl⟩:=h;obtain⟨y,r,hy⟩:=bE hk;have hr:t.drop (p+2)=r:=by rw[<- l27,hy];rfl
 rw[hy] at hk;refine⟨pre++[cG (p+2) (nxtC r),cG (p+2) (nxtC r)],?_,by rw[l6,hl];rfl⟩;rw[e,hy,pD hk,hr,l18];rfl
def Al.one {t:List Nat}{p:Nat}(h:Al t p)(hp:p < t.length)(hk:az (t.drop p)=false):Al t (p+1):=by
 obtain⟨pre,e,hl⟩:=h;have hd:=l28 hp;rw[hd] at hk;refine⟨pre++[cG (p+1) (nxtC (t.drop (p+1)))],?_,by rw[l6,hl];rfl⟩;rw[e,hd,mH hk,l18];rfl
def Al.get {t r:List Nat}{p:Nat}(h:Al t p)(hr:t.drop p=91::r):(clGo 0 t)[p]? = some (cG (p+1) (nxtC r)):=by
 obtain⟨pre,e,hl⟩:=h;rw[e,hr,mH (by rfl),List.getElem?_append_right nofun,hl,l59];rfl
def Al.to {t:List Nat}{q:Nat}(hq:q<=t.length)(hz:t.getD (q - 1) 0≠92):∀(m p:Nat),q - p<=m->p<=q->Al t p->Al t q
 |m,p,hm,hpq,h=>by
  by_cases e:p=q
  ·subst e;exact h
  ·have hp:p < t.length:=by omega
   cases hk:az (t.drop p) with
   |true=>
    have hne:p+1≠q:=λz=>by
     obtain⟨y,r,hy⟩:=bE hk;have:(t.drop p)[0]? = some 92:=by rw[hy];rfl
     rw[List.getElem?_drop,Nat.add_zero] at this;exact hz (by rw[<- z,l71,l23,this];rfl)
    match m,hm with
    |m+1,hm=>exact Al.to hq hz m (p+2) nofun nofun (h.take hk)
    |0,hm=>omega
   |false=>
    match m,hm with
    |m+1,hm=>exact Al.to hq hz m (p+1) nofun nofun (h.one hp hk)
    |0,hm=>omega
def kg {s r:List Nat}{p:Pc}(h:gv s=some (p,r)):(az s=true/\∃x y,s=x::y::r) ∨ (az s=false/\∃x,s=x::r) ∨ ∃u z,s=u++z::r/\z≠92:=by
 cases s with
 |nil=>cases h
 |cons x t=>
  have h:(if az (x::t) then some (Pc.sign (t.headD 0),t.tail) else if x=42 then some (Pc.star,t) else if x=96 then some ((bV t).getD (.sign 96,t)) else if x=91 then some (((b6 t).or (bw t)).getD (.sign 91,t)) else some (Pc.sign x,t))=some (p,r):=h;split at h
  ·rename_i hk;cases h;obtain⟨y,r,e⟩:=bE hk;cases e;exact .inl ⟨hk,_,_,rfl⟩
  ·rename_i hk;have hk:=Bool.eq_false_iff.mpr hk;split at h
   ·cases h;exact .inr (.inl ⟨hk,_,rfl⟩)
   ·split at h
    ·cases hc:bV t with
     |none=>rw[hc] at h;cases h;exact .inr (.inl ⟨hk,_,rfl⟩)
     |some q=>
      rw[hc] at h;cases h;unfold bV at hc;split at hc
      ·rename_i y a b he;cases hc;exact .inr (.inr ⟨x::y::a,96,by rw[(cutAt_eq he).1];rfl,by decide⟩)
      ·cases hc
    ·split at h
     ·cases hm:b6 t with
      |some q=>
       rw[hm] at h;cases h;unfold b6 at hm;split at hm
       ·cases hn:nameAt 93 _ with
        |none=>rw[hn] at hm;cases hm
        |some q=>
         rw[hn] at hm;cases hm;obtain⟨a,_,_,e,_⟩:=gx hn;exact .inr (.inr ⟨x::94::a,93,by rw[e];rfl,by decide⟩)
       ·cases hm
      |none=>
       rw[hm] at h;cases hl:bw t with
       |none=>rw[hl] at h;cases h;exact .inr (.inl ⟨hk,_,rfl⟩)
       |some q=>
        rw[hl] at h;cases h;unfold bw at hl;split at hl
        ·rename_i k hx;split at hl
         ·rename_i r2 hd;cases hn:nameAt 41 r2 with
          |none=>rw[hn] at hl;cases hl
          |some q=>
           rw[hn] at hl;cases hl;obtain⟨a,_,_,e,_⟩:=gx hn;refine .inr (.inr ⟨x::(t.take (k+2)++40::a),41,?_,by decide⟩);rw[l40,l18,l40,<- e,<- hd,l56]
         ·cases hl
        ·cases hl
     ·cases h;exact .inr (.inl ⟨hk,_,rfl⟩)
def Al.step {t r:List Nat}{p:Nat}{pc:Pc}(h:Al t p)(hp:p < t.length)(hs:gv (t.drop p)=some (pc,r)):∃q,q=t.length - r.length/\p < q/\q<=t.length/\t.drop q=r/\Al t q:=by
 have w6:(t.drop p).length=t.length - p:=l13;rcases kg hs with ⟨hk,x,y,e⟩ |⟨hk,x,e⟩ |⟨u,z,e,hz⟩
 ·have hl:=congrArg List.length e;rw[w6,l4,l4] at hl;refine⟨p+2,by omega,by omega,by omega,?_,h.take hk⟩;rw[<- l27,e];rfl
 ·have hl:=congrArg List.length e;rw[w6,l4] at hl;refine⟨p+1,by omega,by omega,by omega,?_,h.one hp hk⟩;rw[<- l27,e];rfl
 ·have hl:=congrArg List.length e;rw[w6,l6,l4] at hl;have hd:t.drop (p+(u.length+1))=r:=by
   rw[<- l27,e,<- l27,l48];rfl
  refine⟨p+(u.length+1),by omega,by omega,by omega,hd,Al.to nofun ?_ _ p (l5 _) nofun h⟩;have:(t.drop p)[u.length]? = some z:=by rw[e,List.getElem?_append_right (l5 _),l59];rfl
  rw[List.getElem?_drop] at this;rw[show p+(u.length+1) - 1=p+u.length by omega,l23,this];exact hz
def ez {s:List Nat}(h:s≠[]):∃p r,gv s=some (p,r):=by
 cases s with
 |nil=>exact absurd rfl h
 |cons x t=>
  show ∃p r,(if az (x::t) then some (Pc.sign (t.headD 0),t.tail) else if x=42 then some (Pc.star,t) else if x=96 then some ((bV t).getD (.sign 96,t)) else if x=91 then some (((b6 t).or (bw t)).getD (.sign 91,t)) else some (Pc.sign x,t))=some (p,r);split
  ·exact⟨_,_,rfl⟩
  ·split
   ·exact⟨_,_,rfl⟩
   ·split
    ·exact⟨_,_,rfl⟩
    ·split <;> exact⟨_,_,rfl⟩
def fk:∀(n:Nat) (s:List Nat),s.length<=n->(aC s).length<=s.length
 |n,[],_=>by rw[bO];exact l5 0
 |0,x::s,h=>by simp at h
 |n+1,x::s,h=>by
  obtain⟨p,r,e⟩:=ez (s:=x::s) (by simp);rw[bW e,l4];have h1:=iX e;have h2:=fk n r nofun;omega
inductive Qc where
 |txt (l:List Nat)
 |part (p:PC)
def toQ:Pc->Qc
 | .sign x => .txt [x]
 | .star => .txt [42]
 | .code l => .part (.one (.code (S l)))
 | .note n => .part (.one (.note (S n)))
 | .link w n => .part (.one (.link (S w) (S n)))
def bn (sg:List (List Nat)):List PC:=if sg.isEmpty then [] else [.one (.plain (S sg.flatten))]
def mgGo (sg:List (List Nat)):List Qc->List PC
 | []=>bn sg
 | .txt l::r=>mgGo (sg++[l]) r
 | .part p::r=>bn sg++p::mgGo [] r
def bc (inn:List Qc):Qc:=if inn.isEmpty then .txt [42,42] else .part (.strong (ones (mgGo [] inn)))
def wsGo:Option (List Qc)->List Pc->List Qc
 |none,[]=>[]
 |some inn,[] => .txt [42]::inn
 |none, .star::r=>wsGo (some []) r
 |some inn, .star::r=>bc inn::wsGo none r
 |none,p::r=>toQ p::wsGo none r
 |some inn,p::r=>wsGo (some (inn++[toQ p])) r
def aS (t:List Nat):List PC:=mgGo [] (wsGo none (aC t))
def QAt (c:Cp)(H:Hp)(v:V):Qc->Prop
 | .txt l=>v=vS l
 | .part p=>∃a,v = .ref a/\PCAt c H a p
theorem QAt.same {c:Cp}{H H':Hp}{v:V}(s:Same H H'):∀{p:Qc},QAt c H v p->QAt c H' v p
 | .txt _,h=>h
 | .part _,⟨a,e,h⟩=>⟨a,e,h.same s⟩
def QsAt (c:Cp)(H:Hp):List V->List Qc->Prop
 | [],[]=>True
 |v::vs,p::ps=>QAt c H v p/\QsAt c H vs ps
 |_,_=>False
theorem QsAt.same {c:Cp}{H H':Hp}(s:Same H H'):∀{vs:List V} {ps:List Qc},QsAt c H vs ps->QsAt c H' vs ps
 | [],[],_=>trivial
 |_::_,_::_,⟨a,b⟩=>⟨a.same s,b.same s⟩
theorem QsAt.len {c:Cp}{H:Hp}:∀{vs:List V} {ps:List Qc},QsAt c H vs ps->vs.length=ps.length
 | [],[],_=>rfl
 |_::_,_::_,⟨_,b⟩=>by rw[l4,l4,b.len]
def QsAt.snoc {c:Cp}{H:Hp}{vs:List V}{ps:List Qc}{v:V}{p:Qc}(h:QsAt c H vs ps)(k:QAt c H v p):QsAt c H (vs++[v]) (ps++[p]):=by
 induction vs generalizing ps with
 |nil=>
  cases ps with
  |nil=>exact⟨k,trivial⟩
  |cons _ _=>exact h.elim
 |cons _ _ ih=>
  cases ps with
  |nil=>exact h.elim
  |cons _ _=>exact⟨h.1,ih h.2⟩
theorem QsAt.app {c:Cp}{H:Hp}:∀{vs us:List V} {ps qs:List Qc},QsAt c H vs ps->QsAt c H us qs->QsAt c H (vs++us) (ps++qs)
 | [],_,[],_,_,h=>h
 |_::_,_,_::_,_,⟨a,b⟩,h=>⟨a,b.app h⟩
theorem QsAt.get {c:Cp}{H:Hp}:∀{vs:List V} {ps:List Qc} {i:Nat} {v:V},QsAt c H vs ps->vs[i]? = some v->∃p,ps[i]? = some p/\QAt c H v p
 | [],[],_,_,_,e=>by simp at e
 |_::_,_::_,0,_,⟨h,_⟩,e=>by cases e;exact⟨_,rfl,h⟩
 |_::_,_::_,i+1,_,⟨_,b⟩,e=>by
  obtain⟨p,h1,h2⟩:=b.get (i:=i) (by simpa using e);exact⟨p,by simpa using h1,h2⟩
theorem PcAt.toQ {c:Cp}{H:Hp}{v:V}:∀{p:Pc},PcAt c H v p->p ≠ .star->QAt c H v (toQ p)
 | .sign _,h,_=>h
 | .star,_,z=>absurd rfl z
 | .code _,h,_=>h
 | .note _,h,_=>h
 | .link _ _,h,_=>h
def lenQ:List Qc->Nat
 | []=>0
 | .txt l::r=>l.length+lenQ r
 | .part _::r=>lenQ r
theorem c9:∀(a b:List Qc),lenQ (a++b)=lenQ a+lenQ b
 | [],b=>by rw[l42];show _=0+_;omega
 | .txt l::a,b=>by rw[l40];show l.length+lenQ (a++b)=l.length+lenQ a+lenQ b;rw[c9 a b];omega
 | .part _::a,b=>by rw[l40];show lenQ (a++b)=lenQ a+lenQ b;exact c9 a b
def QOk (qs:List Qc):Prop:=∀l,Qc.txt l∈qs->Asc l/\l≠[]
def PcOk (ps:List Pc):Prop:=∀x,Pc.sign x∈ps->x < 128
def iY (p:Pc):lenQ [toQ p]<=1:=by cases p <;> simp[toQ,lenQ]
def iZ {p:Pc}(hp:p ≠ .star){r:List Pc}(h:lenQ (wsGo none r)<=r.length+0/\(wsGo none r).length<=r.length+0):lenQ (wsGo none (p::r))<=(p::r).length+0/\(wsGo none (p::r)).length<=(p::r).length+0:=by
 obtain⟨h1,h2⟩:=h;have e:wsGo none (p::r)=[toQ p]++wsGo none r:=by cases p <;> first |rfl |exact absurd rfl hp
 have h3:=iY p;rw[e,c9,l6,l4,l4,l25];omega
def i3 {p:Pc}(hp:p ≠ .star){r:List Pc}{inn:List Qc}(h:lenQ (wsGo (some (inn++[toQ p])) r)<=r.length+(lenQ (inn++[toQ p])+1)/\(wsGo (some (inn++[toQ p])) r).length<=r.length+((inn++[toQ p]).length+1)):lenQ (wsGo (some inn) (p::r))<=(p::r).length+(lenQ inn+1)/\(wsGo (some inn) (p::r)).length<=(p::r).length+(inn.length+1):=by
 obtain⟨h1,h2⟩:=h;have e:wsGo (some inn) (p::r)=wsGo (some (inn++[toQ p])) r:=by cases p <;> first |rfl |exact absurd rfl hp
 have h3:=iY p;rw[c9] at h1;rw[l6,l4,l25] at h2;rw[e,l4];omega
theorem bK:∀(ps:List Pc) (o:Option (List Qc)),lenQ (wsGo o ps)<=ps.length+(match o with |none=>0 |some inn=>lenQ inn+1)/\(wsGo o ps).length<=ps.length+(match o with |none=>0 |some inn=>inn.length+1)
 | [],none=>⟨l5 _,l5 _⟩
 | [],some inn=>by
  show 1+lenQ inn<=0+(lenQ inn+1)/\inn.length+1<=0+(inn.length+1);omega
 | .star::r,none=>by
  have h:=bK r (some []);have h1:lenQ (wsGo (some []) r)<=r.length+(0+1):=h.1;have h2:(wsGo (some []) r).length<=r.length+(0+1):=h.2;show lenQ (wsGo (some []) r)<=(r.length+1)+0/\(wsGo (some []) r).length<=(r.length+1)+0;omega
 | .star::r,some inn=>by
  have h:=bK r none;have h1:lenQ (wsGo none r)<=r.length+0:=h.1;have h2:(wsGo none r).length<=r.length+0:=h.2;have h3:lenQ (bc inn::wsGo none r)<=2+lenQ (wsGo none r):=by
   unfold bc;split
   ·show 2+_<=_;exact l5 _
   ·show lenQ (wsGo none r)<=2+lenQ (wsGo none r);omega
  show lenQ (bc inn::wsGo none r)<=(r.length+1)+(lenQ inn+1)/\(wsGo none r).length+1<=(r.length+1)+(inn.length+1);omega
 | .sign x::r,none=>iZ (by rintro⟨⟩) (bK r none)
 | .code l::r,none=>iZ (by rintro⟨⟩) (bK r none)
 | .note l::r,none=>iZ (by rintro⟨⟩) (bK r none)
 | .link a b::r,none=>iZ (by rintro⟨⟩) (bK r none)
 | .sign x::r,some inn=>i3 (by rintro⟨⟩) (bK r (some (inn++[_])))
 | .code l::r,some inn=>i3 (by rintro⟨⟩) (bK r (some (inn++[_])))
 | .note l::r,some inn=>i3 (by rintro⟨⟩) (bK r (some (inn++[_])))
 | .link a b::r,some inn=>i3 (by rintro⟨⟩) (bK r (some (inn++[_])))
def i6 {c lo hi:Nat}{l:List Nat}(h:cutAt c ((l.take hi).drop lo)=none):fndC c l lo hi = -1:=by
 unfold fndC;rw[h]
def i7 {c lo hi:Nat}{l a b:List Nat}(h:cutAt c ((l.take hi).drop lo)=some (a,b)):fndC c l lo hi=((lo+a.length:Nat):Int):=by
 unfold fndC;rw[h]
def win (t:List Nat)(m k:Nat):(t.take (min (m+k) t.length)).drop m=(t.drop m).take k:=by
 refine l73 λi=>?_;rw[List.getElem?_drop,List.getElem?_take,List.getElem?_take,List.getElem?_drop];by_cases h:i < k
 ·rw[if_pos h];by_cases h2:m+i < t.length
  ·rw[if_pos nofun]
  ·rw[if_neg nofun,List.getElem?_eq_none nofun]
 ·rw[if_neg h,if_neg nofun]
def im {K:Frag}{te ti:TE}{σ:St}{H:Hp}{y:Str}{l z:List Nat}{i:Nat}(ey:y=S z)(hz:z≠[])(he:Ev te σ H (vS l))(hi:Ev ti σ H (.int (i:Int))):
  Tells (tB (tBM K "str" rStartsAt te (tCons (tC (.str y)) (tCons ti tNil)))) σ H (z.isPrefixOf (l.drop i)):=by
 intro R k;subst ey;exact he _ ⟨rfl,hi _ ⟨l,z,i,rfl,rfl,hz,_,rfl,k H (Same.refl H)⟩⟩
theorem fN:∀{t:List Nat} {c:Nat},c∈freeC t->c∈t
 | [],_,h=>h
 | [_],_,h=>h
 |x::y::r,c,h=>by
  have h:c∈(if x=92/\takenC.contains y=true then y::freeC r else x::freeC (y::r)):=h;split at h
  ·rcases l9.mp h with e |e
   ·rw[e];exact l7 _ l8
   ·exact l7 _ (l7 _ (fN e))
  ·rcases l9.mp h with e |e
   ·rw[e];exact l8
   ·exact l7 _ (fN e)
def gy {l:List Nat}(h:Asc l)(hl:l.length<=100000):StrG (S l):=⟨uM h,by rw[aA];exact hl⟩
def vh {H H1:Hp}{x dx C:Addr}{o:HO}(s:Same H H1)(hx:H1 x=none)(hdx:H1 dx=none):Same H (upd (upd (upd H1 dx (.own x)) x (.ins C dx [])) x o)/\dif H (upd (upd (upd H1 dx (.own x)) x (.ins C dx [])) x o) x=some o:=
 ⟨af (s.free hx) (af (s.free hx) (af (s.free hdx) s)),by rw[ar (s.free hx)];exact aa⟩
def wU {H H1:Hp}{x dx C:Addr}{o1 o:HO}(s:Same H H1)(hx:H1 x=none)(hdx:H1 dx=none):Same H (upd (upd (upd (upd H1 dx (.own x)) x (.ins C dx [])) x o1) x o)/\dif H (upd (upd (upd (upd H1 dx (.own x)) x (.ins C dx [])) x o1) x o) x=some o:=
 ⟨af (s.free hx) (af (s.free hx) (af (s.free hx) (af (s.free hdx) s))),by rw[ar (s.free hx)];exact aa⟩
def i8 {H H2:Hp}{tp:Addr}(h:H2 tp=none)(o:HO):Same (dif H H2) (dif H (upd H2 tp o)):=av (Same.refl _) (ac h o)
def Mo (R:Hp->Prop):Prop:=∀G G',Same G G'->R G->R G'
inductive NewQ (H:Hp)(W:List Addr)(H':Hp)(R:Hp->Prop):Prop
 |mk (G)(_:Same G H')(_:∀b∈W,G b=none)(_:∀b,H b≠none->G b=none)(_:R G)
section
variable {H H' H3 H4:Hp}{W:List Addr}{R R2 R':Hp->Prop}
def NewQ.same (h:NewQ H W H' R)(s:Same H' H4):NewQ H W H4 R:=let ⟨G,a,b,d,e⟩:=h;⟨G,a.trans s,b,d,e⟩
def NewQ.upd {p:Addr}{o:HO}(h:NewQ H W H' R)(hp:p∈W):NewQ H W (L2.upd H' p o) R:=
 let ⟨G,a,b,d,e⟩:=h
 ⟨G,λx u z=>(ag (nq (b p hp) z)).trans (a x u z),b,d,e⟩
def NewQ.wide {p:Addr}(h:NewQ H W H' R)(hp:H' p=none):NewQ H (p::W) H' R:=
 let ⟨G,a,b,d,e⟩:=h
 ⟨G,a,λx hx=>by
  rcases l9.mp hx with z |z
  ·rw[z];exact a.free hp
  ·exact b x z,d,e⟩
def NewQ.less {W':List Addr}(h:NewQ H W H' R)(k:∀b∈W',b∈W):NewQ H W' H' R:=let ⟨G,a,b,d,e⟩:=h;⟨G,a,λx hx=>b x (k x hx),d,e⟩
def NewQ.dif (h:NewQ H W H' R)(m:Mo R):R (dif H H'):=
 let ⟨G,a,_,d,e⟩:=h
 m G _ (λx u z=>by
  have hx:H x=none:=by
   cases q:H x with
   |none=>rfl
   |some o=>rw[d x (by rw[q];simp)] at z;cases z
  rw[ar hx];exact a x u z) e
def NewQ.join (h:NewQ H W H' R)(h2:NewQ H W H' R2)(m:Mo R)(m2:Mo R2)(k:∀G,R G->R2 G->R' G):NewQ H W H' R':=
 let ⟨G,a,b,d,e⟩:=h
 let ⟨G2,a2,b2,d2,e2⟩:=h2
 ⟨both G G2,k9 a a2,λx hx=>by unfold both;rw[b x hx];exact b2 x hx,λx hx=>by unfold both;rw[d x hx];exact d2 x hx,k _ (m _ _ pf e) (m2 _ _ (ph a a2) e2)⟩
def NewQ.of (s:Same H H3)(hW:∀b∈W,H3 b≠none)(h:R (L2.dif H3 H4)):NewQ H W H4 R:=⟨L2.dif H3 H4,dif_same,λb hb=>dW (hW b hb),λb hb=>dW (λz=>hb (s.free z)),h⟩
def NewQ.old (s:Same H3 H4)(hs:Same H H3)(hW:∀b∈W,H3 b=none)(h:R (L2.dif H H3)):NewQ H W H4 R:=⟨L2.dif H H3,dif_same.trans s,λb hb=>by rw[ar (hs.free (hW b hb))];exact hW b hb,λb hb=>dW hb,h⟩
def NewQ.triv (h:R λ_=>none):NewQ H W H' R:=⟨λ_=>none,(λ_ _ z=>nomatch z),(λ_ _=>rfl),(λ_ _=>rfl),h⟩
end
def yl {c:Cp}{v:V}{p:Pc}:Mo λG=>PcAt c G v p:=λ_ _ s h=>h.same s
def tK {c:Cp}{vs:List V}{ps:List Pc}:Mo λG=>PcsAt c G vs ps:=λ_ _ s h=>h.same s
def mo_Q {c:Cp}{v:V}{p:Qc}:Mo λG=>QAt c G v p:=λ_ _ s h=>h.same s
def ym {c:Cp}{vs:List V}{ps:List Qc}:Mo λG=>QsAt c G vs ps:=λ_ _ s h=>h.same s
def wV {c:Cp}{a:Addr}{p:PC}:Mo λG=>PCAt c G a p:=λ_ _ s h=>h.same s
def mJ {c:Cp}{as:List Addr}{ps:List PC}:Mo λG=>PCs c G as ps:=λ_ _ s h=>h.same s
def NewQ.map {H H':Hp}{W:List Addr}{R R':Hp->Prop}(h:NewQ H W H' R)(k:∀G,R G->R' G):NewQ H W H' R':=let ⟨G,a,b,d,e⟩:=h;⟨G,a,b,d,k G e⟩
def pG {s r:List Nat}{x:Nat}(h:gv s=some (.sign x,r)):x∈s:=by
 cases s with
 |nil=>cases h
 |cons y t=>
  have h:(if az (y::t) then some (Pc.sign (t.headD 0),t.tail) else if y=42 then some (Pc.star,t) else if y=96 then some ((bV t).getD (.sign 96,t)) else if y=91 then some (((b6 t).or (bw t)).getD (.sign 91,t)) else some (Pc.sign y,t))=some (.sign x,r):=h;split at h
  ·rename_i hk;cases h;obtain⟨z,r',e⟩:=bE hk;cases e;exact l7 _ l8
  ·split at h
   ·cases h
   ·split at h
    ·rename_i e;cases hc:bV t with
     |none=>rw[hc] at h;cases h;rw[e];exact l8
     |some q=>
      rw[hc] at h;cases h;unfold bV at hc;split at hc <;> cases hc
    ·split at h
     ·rename_i e;cases hm:b6 t with
      |some q=>
       rw[hm] at h;cases h;unfold b6 at hm;split at hm
       ·cases hn:nameAt 93 _ with
        |none=>rw[hn] at hm;cases hm
        |some q=>rw[hn] at hm;cases hm
       ·cases hm
      |none=>
       rw[hm] at h;cases hl:bw t with
       |none=>rw[hl] at h;cases h;rw[e];exact l8
       |some q=>
        rw[hl] at h;cases h;unfold bw at hl;split at hl
        ·split at hl
         ·cases hn:nameAt 41 _ with
          |none=>rw[hn] at hl;cases hl
          |some q=>rw[hn] at hl;cases hl
         ·cases hl
        ·cases hl
     ·cases h;exact l8
def pH {s r:List Nat}{p:Pc}(h:gv s=some (p,r)):∀c∈r,c∈s:=by
 rcases kg h with ⟨_,x,y,e⟩ |⟨_,x,e⟩ |⟨u,z,e,_⟩ <;> intro c hc <;> rw[e]
 ·exact l7 _ (l7 _ hc)
 ·exact l7 _ hc
 ·exact l34 _ (l7 _ hc)
def kh:∀(n:Nat) (s:List Nat),s.length<=n->Asc s->PcOk (aC s)
 |n,[],_,_=>by rw[bO];exact λ_ z=>nomatch z
 |0,x::s,h,_=>by simp at h
 |n+1,x::s,h,ha=>by
  obtain⟨p,r,e⟩:=ez (s:=x::s) (by simp);rw[bW e];have h1:=iX e;intro y hy;rcases l9.mp hy with z |z
  ·subst z;exact ha y (pG e)
  ·exact kh n r nofun (ha.sub (pH e)) y z
def pI {p:Pc}{l:List Nat}(hp:∀x,p = .sign x->x < 128)(h:Qc.txt l=toQ p):Asc l/\l≠[]:=by
 cases p with
 |sign x=>cases h;exact⟨λc hc=>by rw[l14.mp hc];exact hp x rfl,by simp⟩
 |star=>cases h;exact⟨by unfold Asc;decide,by simp⟩
 |code l=>cases h
 |note l=>cases h
 |link a b=>cases h
def QOk.app {a b:List Qc}(h:QOk a)(k:QOk b):QOk (a++b):=λl hl=>by
 rcases l21.mp hl with z |z
 ·exact h l z
 ·exact k l z
def QOk.cons {a:Qc}{b:List Qc}(h:∀l,Qc.txt l=a->Asc l/\l≠[])(k:QOk b):QOk (a::b):=λl hl=>by
 rcases l9.mp hl with z |z
 ·exact h l z
 ·exact k l z
def QOk.nil:QOk []:=λ_ z=>nomatch z
def nK (inn:List Qc):∀l,Qc.txt l=bc inn->Asc l/\l≠[]:=λl h=>by
 unfold bc at h;split at h
 ·cases h;exact⟨by unfold Asc;decide,by simp⟩
 ·cases h
theorem gz:∀(ps:List Pc) (o:Option (List Qc)),PcOk ps->(∀inn,o=some inn->QOk inn)->QOk (wsGo o ps)
 | [],none,_,_=>QOk.nil
 | [],some inn,_,h=>QOk.cons (λl z=>by cases z;exact⟨by unfold Asc;decide,by simp⟩) (h inn rfl)
 | .star::r,none,hp,h=>gz r (some []) (λx hx=>hp x (l7 _ hx)) λinn e=>by cases e;exact QOk.nil
 | .star::r,some inn,hp,h=>QOk.cons (nK inn) (gz r none (λx hx=>hp x (l7 _ hx)) λinn e=>nomatch e)
 | .sign x::r,none,hp,h=>QOk.cons (λl z=>pI (p := .sign x) (λy e=>by cases e;exact hp x l8) z) (gz r none (λx hx=>hp x (l7 _ hx)) λinn e=>nomatch e)
 | .code x::r,none,hp,h=>QOk.cons (λl z=>nomatch z) (gz r none (λx hx=>hp x (l7 _ hx)) λinn e=>nomatch e)
 | .note x::r,none,hp,h=>QOk.cons (λl z=>nomatch z) (gz r none (λx hx=>hp x (l7 _ hx)) λinn e=>nomatch e)
 | .link x y::r,none,hp,h=>QOk.cons (λl z=>nomatch z) (gz r none (λx hx=>hp x (l7 _ hx)) λinn e=>nomatch e)
 | .sign x::r,some inn,hp,h=>gz r (some (inn++[toQ (.sign x)])) (λx hx=>hp x (l7 _ hx)) λ_ e=>by cases e;exact(h inn rfl).app (QOk.cons (λl z=>pI (p := .sign x) (λy e=>by cases e;exact hp x l8) z) QOk.nil)
 | .code x::r,some inn,hp,h=>gz r (some (inn++[toQ (.code x)])) (λx hx=>hp x (l7 _ hx)) λ_ e=>by cases e;exact(h inn rfl).app (QOk.cons (λl z=>nomatch z) QOk.nil)
 | .note x::r,some inn,hp,h=>gz r (some (inn++[toQ (.note x)])) (λx hx=>hp x (l7 _ hx)) λ_ e=>by cases e;exact(h inn rfl).app (QOk.cons (λl z=>nomatch z) QOk.nil)
 | .link x y::r,some inn,hp,h=>gz r (some (inn++[toQ (.link x y)])) (λx hx=>hp x (l7 _ hx)) λ_ e=>by cases e;exact(h inn rfl).app (QOk.cons (λl z=>nomatch z) QOk.nil)
def gA {p:Pc}(hp:p ≠ .star)(r:List Pc):wsGo none (p::r)=toQ p::wsGo none r:=by cases p <;> first |rfl |exact absurd rfl hp
def gB {p:Pc}(hp:p ≠ .star)(r:List Pc)(inn:List Qc):wsGo (some inn) (p::r)=wsGo (some (inn++[toQ p])) r:=by cases p <;> first |rfl |exact absurd rfl hp
def OneQ (qs:List Qc):Prop:=∀p,Qc.part p∈qs->one? p≠none
def OneQ.snoc {qs:List Qc}(h:OneQ qs)(p:Pc):OneQ (qs++[toQ p]):=λq hq=>by
 rcases l21.mp hq with z |z
 ·exact h q z
 ·have z:=l14.mp z;cases p <;> cases z <;> exact λe=>nomatch e
def io (sg:List (List Nat)):∀p∈bn sg,one? p≠none:=λp hp=>by
 unfold bn at hp;split at hp
 ·cases hp
 ·rw[l14.mp hp];exact λe=>nomatch e
theorem lr:∀(qs:List Qc) (sg:List (List Nat)),OneQ qs->∀p∈mgGo sg qs,one? p≠none
 | [],sg,_,p,hp=>io sg p hp
 | .txt l::r,sg,h,p,hp=>lr r (sg++[l]) (λq hq=>h q (l7 _ hq)) p hp
 | .part q::r,sg,h,p,hp=>by
  have hp:p∈bn sg++q::mgGo [] r:=hp;rcases l21.mp hp with z |z
  ·exact io sg p z
  ·rcases l9.mp z with z |z
   ·rw[z];exact h q l8
   ·exact lr r [] (λq hq=>h q (l7 _ hq)) p z
theorem glue_flat:∀l:List (List Nat),ao [] l=l.flatten
 | []=>rfl
 | [c]=>by show c=c++[];rw[l17]
 |c::d::r=>by
  have ih:=glue_flat (d::r);rw[bj _ _ _ (by simp),ih,l17];simp
def mK (l:List (List Nat))(h:l.flatten.length<=100000):(((l.map S).map (·.length)).sum+(l.map S).length * (S []).length)<=sizeLine:=by
 have e:((l.map S).map (·.length)).sum=l.flatten.length:=by
  clear h
  induction l with
  |nil=>rfl
  |cons x l ih=>rw[l12,l12,l24,ih,aA,l35,l6]
 rw[e,aA,sizeLine_eq];simp only[l25,Nat.mul_zero];omega
def pJ {qs:List Qc}{i:Nat}{q:Qc}(h:qs[i]? = some q):lenQ (qs.drop i)=lenQ [q]+lenQ (qs.drop (i+1)):=by
 obtain⟨hi,he⟩:=List.getElem?_eq_some_iff.mp h;rw[l28 hi,he,<- c9];rfl
def pK {v:V}{i:Nat}{u:TS}{D:Ends}{σ:St}{H:Hp}(h:u D (σ.set i (some v)) H):tSeq (tAsg (tC v) (ah i)) u D σ H:=h
end Lw
namespace K15
open PySem L2 Lm Lw
structure TxI (K:Frag)(mg:Str->Option Value)(c:Cp)(BT:Addr):Prop extends TxP K mg c BT where
 z14:∃t,mg "TAKEN"=some (.str (S takenC) t)
 z52:kitOne K (.ref c.Plain) (.type "str")=some false
 q52:kitOne K (.ref c.Code) (.type "str")=some false
 u53:kitOne K (.ref c.Strong) (.type "str")=some false
 g53:kitOne K (.ref c.Link) (.type "str")=some false
 z53:kitOne K (.ref c.Mark) (.type "str")=some false
theorem TxI.noStr {K:Frag}{mg:Str->Option Value}{c:Cp}{BT:Addr}(T:TxI K mg c BT){H:Hp}{a:Addr}:∀{p:PC},PCAt c H a p->∃t,TyOf K H (.ref a) t/\kitOne K t (.type "str")=some false
 | .one (.plain _),⟨_,_,e⟩=>⟨_,T.q27.ty e,T.z52⟩
 | .one (.code _),⟨_,_,e⟩=>⟨_,T.u28.ty e,T.q52⟩
 | .one (.link _ _),⟨_,_,_,e⟩=>⟨_,T.g16.ty e,T.g53⟩
 | .one (.note _),⟨_,_,e⟩=>⟨_,T.z28.ty e,T.z53⟩
 | .strong _,⟨_,_,_,e,_⟩=>⟨_,T.g28.ty e,T.u53⟩
def mL {t:List Nat}{i:Nat}(h:i < t.length):az (t.drop i)=(decide (t.getD i 0=92)&&decide (i+1 < t.length)&&takenC.contains (t.getD (i+1) 0)):=by
 rw[l28 h];have e:t.getD i 0=t[i]:=by rw[l23,List.getElem?_eq_getElem h];rfl
 rw[e];by_cases h2:i+1 < t.length
 ·rw[l28 h2];have e2:t.getD (i+1) 0=t[i+1]:=by rw[l23,List.getElem?_eq_getElem h2];rfl
  rw[e2,decide_eq_true h2,Bool.and_true];by_cases h3:t[i]=92
  ·rw[h3];rfl
  ·rw[decide_eq_false h3,Bool.false_and];unfold az;split
   ·rename_i z;exact absurd (List.cons.inj z).1 h3
   ·rfl
 ·rw[decide_eq_false h2,Bool.and_false,Bool.false_and,l41 nofun];unfold az;split
  ·rename_i z;exact absurd (List.cons.inj z).2 (λy=>nomatch y)
  ·rfl
section
variable {c:Cp}{BT:Addr}
abbrev pL:Stmt:=top 58
inductive spTakes (vs:List V)(H:Hp)(Q:VK)(u3:XK):Prop
 |mk (t:List Nat)(i:Nat)(_:vs=[vS t, .int (i:Int)])(_:i < t.length)(_:t.length<=1000000)(_:∀H',Same H H'->Q (.bl (az (t.drop i))) H')
def sq (F:Fun K "takes_next" "takes_next" pL f fd)(T:TxI K mg c BT):FnOk P w K mg base CX0 1 f fd p6 spTakes:=by
 have sc:FnScope p6 p6 (ad pL):=mkS;refine F.oks sc λH Q hr h=>?_;obtain⟨t,i,rfl,hi,hl,q⟩:=h;refine ap (xbc (xif (xor (ay gV (xix dq (xv 0) (xv 1) (λ_ _=>rfl)) xstr (al _)) (xor1 (ay bx (xop au (xv 1) xint) (xcB aw T.u10 PySem.boot_len (xac (xv 0) xa0)) (al _)))).xt (xb1 (xret xbl)) xb0)
  (xb1 (xret (xcmp dM (xix dq (xv 0) (xop au (xv 1) xint) (λ_ _=>rfl)) (xgS T.z14) (by with_unfolding_all rfl))))) ?_
 rw[xP];have hix:∀H',Ev (tOp rIxS (tVar 0) (tVar 1)) [some (vS t),some (V.int (i:Int))] H' (vS [t.getD i 0]):=λH'=>by
  have:=wI (σ:=[some (vS t),some (V.int (i:Int))]) (H:=H') (ta:=tVar 0) (tb:=tVar 1) (l:=t) (i:=(i:Int)) hl (ev_v rfl) (ev_v rfl) nofun nofun;rw[l36] at this;exact this
 have hT:Tells (tOr (tTest (tOp rNe (tOp rIxS (tVar 0) (tVar 1)) (tC (.str "\\")))) (tTest (tOp rEq (tOp (rI0 λi j=>V.int (i+j)) (tVar 1) (tC (.int 1))) (tCB R_call_len_str (tCons (tVar 0) tNil))))) [some (vS t),some (V.int (i:Int))] H (decide ([t.getD i 0]≠[92])||decide (i+1=t.length)):=by
  refine t_or _ _ (t_ne _ [92] rfl (hix H)) λ_ H' _ R k=>⟨_,rfl,_,_,rfl,rfl,_,rfl,_,rfl,bigS hl,rfl,_,rfl,?_⟩;rw[aA,show decide (V.int ((i:Int)+1)=V.int (t.length:Nat))=decide (i+1=t.length) by rw[decide_eq_decide];exact⟨λz=>by have:=V.int.inj z;omega,λz=>by rw[<- z];rfl⟩];exact k _ (Same.refl _)
 by_cases hc:t.getD i 0=92/\i+1 < t.length
 ·obtain⟨h1,h2⟩:=hc;refine aU (hT.eq ?_) λH1 s1=>?_
  ·rw[h1,Bool.or_eq_false_iff];exact⟨decide_eq_false (λz=>z rfl),decide_eq_false nofun⟩
  ·refine⟨_,rfl,_,rfl,_,_,rfl,rfl,nG hl nofun nofun ⟨S [t.getD (i+1) 0],S takenC,?_,rfl,?_⟩⟩
   ·rw[show ((i:Int)+1).toNat=i+1 by omega]
   ·have hq:=q H1 s1;rw[mL hi,decide_eq_true h1,decide_eq_true h2,Bool.true_and,Bool.true_and] at hq;rw[c6];exact hq
 ·refine bU (hT.eq ?_) λH1 s1=>?_
  ·rw[Bool.or_eq_true];by_cases h1:t.getD i 0=92
   ·exact .inr (decide_eq_true (by have:¬ i+1 < t.length:=λz=>hc ⟨h1,z⟩;omega))
   ·exact .inl (decide_eq_true λz=>h1 (List.cons.inj z).1)
  ·have hq:=q H1 s1;rw[mL hi] at hq;have:(decide (t.getD i 0=92)&&decide (i+1 < t.length))=false:=by
    rw[Bool.and_eq_false_iff];by_cases h1:t.getD i 0=92
    ·exact .inr (decide_eq_false λz=>hc ⟨h1,z⟩)
    ·exact .inl (decide_eq_false h1)
   rw[this,Bool.false_and] at hq;exact hq
def pM {x y:Nat}{r:List Nat}(h:az (x::y::r)=true):freeC (x::y::r)=y::freeC r:=by
 have hx:x=92/\takenC.contains y=true:=by
  by_cases e:x=92
  ·subst e;exact⟨rfl,h⟩
  ·exfalso;unfold az at h;split at h
   ·rename_i z;exact e (List.cons.inj z).1
   ·cases h
 show (if x=92/\takenC.contains y=true then y::freeC r else x::freeC (y::r))=_;rw[if_pos hx]
def sr {x:Nat}{r:List Nat}(h:az (x::r)=false):freeC (x::r)=x::freeC r:=by
 cases r with
 |nil=>rfl
 |cons y r=>
  show (if x=92/\takenC.contains y=true then y::freeC r else x::freeC (y::r))=_;rw[if_neg];rintro⟨rfl,hy⟩;rw[show az (92::y::r)=takenC.contains y from rfl,hy] at h;cases h
def pN {s:List Nat}(h:az s=true):∃y r,s=92::y::r:=by
 unfold az at h;split at h
 ·exact⟨_,_,rfl⟩
 ·cases h
theorem ki:∀l:List Nat,ao [] (l.map λc=>[c])=l
 | []=>rfl
 | [c]=>rfl
 |c::d::r=>by
  have ih:=ki (d::r);rw[l12,bj _ _ _ (by simp),ih];rfl
theorem eG:∀t:List Nat,(freeC t).length<=t.length
 | []=>l5 0
 | [x]=>l5 1
 |x::y::r=>by
  show (if x=92/\takenC.contains y=true then y::freeC r else x::freeC (y::r)).length<=_;have h1:=eG r;have h2:=eG (y::r);split <;> simp only[l4] at * <;> omega
def ss {l:List Nat}(h:l.length<=1000000):((((l.map λc=>[c]).map S).map (·.length)).sum+((l.map λc=>[c]).map S).length * (S []).length)<=sizeLine:=by
 have e:(((l.map λc=>[c]).map S).map (·.length)).sum=l.length:=by
  clear h
  induction l with
  |nil=>rfl
  |cons x l ih=>rw[l12,l12,l12,l24,ih,aA];simp only[l4,l25];omega
 rw[e,aA,sizeLine_eq];simp only[l25,Nat.mul_zero];omega
abbrev pO:Stmt:=top 63
inductive spFreed (vs:List V)(H:Hp)(Q:VK)(u3:XK):Prop
 |mk (t:List Nat)(_:vs=[vS t])(_:t.length<=100000)(_:∀H',Same H H'->Q (vS (freeC t)) H')
def su (F:Fun K "freed" "freed" pO f fd)(T:TxI K mg c BT)(Dk:Def P w K mg base 1 "takes_next" p6 spTakes):FnOk P w K mg base CX0 2 f fd ["text"] spFreed:=by
 have sc:FnScope ["text","signs","place"] ["text"] (ad pO):=mkS;refine F.oks sc λH Q hr h=>?_;obtain⟨t,rfl,hl,q⟩:=h;refine ap (xbc (xst (i:=1) sc.nd (xlst xa0))
  (xbc (xst (i:=2) sc.nd xint)
  (xbc (cU PassesOwn.never (ay dL (xv 2) (xcB aw T.u10 PySem.boot_len (xac (xv 0) xa0)) (al _))
  (xbc (xif (bv (xcd Dk hr (xac (xv 0) (xac (xv 2) xa0)))) (xb1 (xaug (i:=2) sc.nd rfl (Or.inl rfl) xint fT)) xb0)
  (xbc (aZ (xmA (xv 1) (xac (xix dq (xv 0) (xv 2) (λ_ _=>rfl)) xa0)))
  (xb1 (xaug (i:=2) sc.nd rfl (Or.inl rfl) xint fT)))))
  (xb1 (xret (xm plainAttrs_str slot_str_join type_str_join bz xstr (xac (xv 1) xa0))))))) ?_
 have hs:=sizeLine_eq;rw[uA];refine⟨bg0,λl hl0=>?_⟩;have s1:=ac hl0 (.lst []);have e1:upd H l (.lst []) l=some (.lst []):=aa
 left
 generalize upd H l (.lst [])=H1 at s1 e1 ⊢;show tSeq (tWhile _ _) _ _ [some (vS t),some (.ref l),some (.int ((0:Nat):Int))] H1;refine bm (λσ' H'=>σ'=[some (vS t),some (.ref l),some (.int (t.length:Nat))]/\Same H H'/\H' l=some (.lst ((freeC t).map λc=>vS [c]))) (λN hN=>?_) ?_
 ·refine cA (λm σ' H'=>∃(p:Nat) (dn:List Nat),σ'=[some (vS t),some (.ref l),some (.int (p:Nat))]/\Same H H'/\H' l=some (.lst (dn.map λc=>vS [c]))/\p<=t.length/\m=t.length - p/\dn++freeC (t.drop p)=freeC t) t.length ⟨0,[],rfl,s1,e1,l10 _,rfl,rfl⟩ ?_;rintro m σ' H2 ⟨p,dn,rfl,s2,e2,hp,rfl,hd⟩;refine⟨decide (p < t.length),λR k=>⟨_,rfl,_,rfl,_,rfl,bigS nofun,_,_,rfl,rfl,_,rfl,?_⟩,λhc H3 s3=>?_,λhc H3 s3=>?_⟩
  ·rw[aA,show decide ((p:Int) < ((t.length:Nat):Int))=decide (p < t.length) by rw[decide_eq_decide];omega];exact k _ (Same.refl _)
  ·have hpl:p < t.length:=of_decide_eq_true hc;have hdl:(freeC t).length<=t.length:=eG t;have dl:dn.length<=t.length:=by
    have:=congrArg List.length hd;rw[l6] at this;omega
   have e3:=s3 _ _ e2;have s23:=s2.trans s3;refine⟨_,rfl,_,rfl,t,p,rfl,hpl,by omega,λH4 s4=>⟨_,rfl,?_⟩⟩;have e4:=s4 _ _ e3;have s24:=s23.trans s4;have fit:(dn.map λc=>vS [c]).length < sizeLine:=by rw[l0,hs];omega
   have new:∀j:Nat,j < t.length->(upd H4 l (.lst ((dn.map λc=>vS [c])++[vS [t.getD j 0]]))) l=some (.lst ((dn++[t.getD j 0]).map λc=>vS [c])):=λj _=>by rw[aa,l15];rfl
   have sG:∀o,Same H (upd H4 l o):=λo=>af hl0 s24;by_cases hk:az (t.drop p)=true
   ·rw[hk];refine iteT ?_;obtain⟨y,r,hy⟩:=pN hk;have hp1:p+1 < t.length:=by
     have:=congrArg List.length hy;rw[l13,l4,l4] at this;omega
    have hg:t.getD (p+1) 0=y:=by
     have:(t.drop p)[1]? = some y:=by rw[hy];rfl
     rw[List.getElem?_drop] at this;rw[l23,this];rfl
    have hr2:t.drop (p+2)=r:=by
     rw[show p+2=p+2 from rfl,<- l27,hy];rfl
    rw[hy] at hk;have hf:freeC (t.drop p)=y::freeC (t.drop (p+2)):=by rw[hy,pM hk,hr2]
    refine⟨_,rfl,_,_,rfl,rfl,?_⟩;dsimp only[sA,sB];refine⟨_,rfl, .inl ⟨rfl,_,SqL.of e4⟩,_,rfl,_,rfl,nG nofun nofun nofun ⟨l,_,_,rfl,rfl,e4,fit,_,rfl,_,_,rfl,rfl,?_⟩⟩;dsimp only[sA,sB];rw[show ((p:Int)+1).toNat=p+1 by omega,show ((p:Int)+1+1)=((p+2:Nat):Int) by omega];refine⟨t.length - (p+2),by omega,p+2,dn++[t.getD (p+1) 0],rfl,sG _,new (p+1) hp1,by omega,rfl,?_⟩;rw[l18,<- hd,hf,hg];rfl
   ·have hk':az (t.drop p)=false:=Bool.eq_false_iff.mpr hk;rw[hk'];refine iteF ?_;have hdr:=l28 hpl;rw[hdr] at hk';have hg:t.getD p 0=t[p]:=by rw[l23,List.getElem?_eq_getElem hpl];rfl
    have hf:freeC (t.drop p)=t[p]::freeC (t.drop (p+1)):=by rw[hdr,sr hk']
    refine⟨_,rfl, .inl ⟨rfl,_,SqL.of e4⟩,_,rfl,_,rfl,nG nofun nofun nofun ⟨l,_,_,rfl,rfl,e4,fit,_,rfl,_,_,rfl,rfl,?_⟩⟩;dsimp only[sA,sB];rw[l36,show ((p:Int)+1)=((p+1:Nat):Int) by omega];refine⟨t.length - (p+1),by omega,p+1,dn++[t.getD p 0],rfl,sG _,new p hpl,by omega,rfl,?_⟩;rw[l18,<- hd,hf,hg];rfl
  ·have hpl:p=t.length:=by have:=of_decide_eq_false hc;omega
   subst hpl;rw[l45] at hd;refine hN _ _ ⟨rfl,s2.trans s3,?_⟩;rw[<- hd,show freeC []=[] from rfl,l17];exact s3 _ _ e2
 ·rintro σ' H2 ⟨rfl,s2,e2⟩;have hdl:=eG t;have em:((freeC t).map λc=>[c]).map S=(freeC t).map λc=>S [c]:=by rw[l19];rfl
  refine⟨rfl,_,rfl,S [],l,((freeC t).map λc=>[c]).map S,rfl,rfl,SqL.of ?_,ss nofun,?_⟩
  ·rw[e2,l19,l19];rfl
  ·rw[bD,ki];exact q H2 s2
abbrev gC:Stmt:=top 59
inductive spClosings (vs:List V)(H:Hp)(Q:VK)(u3:XK):Prop
 |mk (t:List Nat)(_:vs=[vS t])(_:t.length<=100000)(_:∀r H',Same H H'->H r=none->H' r=some (.lst ((clGo 0 t).map V.int))->Q (.ref r) H')
theorem i9 {α:Type}(x:α):∀k:Nat,(List.replicate k [x]).flatten=List.replicate k x
 |0=>rfl
 |k+1=>by rw[l47,l35,i9 x k];rfl
def lu (F:Fun K "closings_of" "closings_of" gC f fd)(T:TxI K mg c BT)(Dk:Def P w K mg base 1 "takes_next" p6 spTakes):FnOk P w K mg base CX0 2 f fd ["text"] spClosings:=by
 have sc:FnScope ["text","closings","place"] ["text"] (ad gC):=mkS;refine F.oks sc λH Q hr h=>?_;obtain⟨t,rfl,hl,q⟩:=h;refine ap (xbc (xst (i:=1) sc.nd (xlst xa0))
  (xbc (xst (i:=2) sc.nd xint)
  (xbc (cU PassesOwn.never (ay dL (xv 2) (xcB aw T.u10 PySem.boot_len (xac (xv 0) xa0)) (al _))
  (xbc (xif (bv (xcd Dk hr (xac (xv 0) (xac (xv 2) xa0)))) (xbc (xaug (i:=2) sc.nd rfl (Or.inl rfl) xint fT)
  (xb1 uQ)) xb0)
  (xbc (xif (ay bx (xix dq (xv 0) (xv 2) (λ_ _=>rfl)) xstr (al _)) (xb1 (aZ (xm PySem.F.plainAttrs_list PySem.F.slot_list_extend PySem.F.type_list_extend oM (xv 1) (xac (xop jL (xlst (xac (xv 2) xa0)) (xop bp (xv 2) (xcB aj T.u10 PySem.boot_len (xac (xv 1) xa0)))) xa0)))) xb0)
  (xb1 (xaug (i:=2) sc.nd rfl (Or.inl rfl) xint fT)))))
  (xb1 (xret (xop bM (xv 1) (xop jL (xlst (xac (xun fV xint) xa0)) (xop bp (xcB aw T.u10 PySem.boot_len (xac (xv 0) xa0)) (xcB aj T.u10 PySem.boot_len (xac (xv 1) xa0)))))))))) ?_
 have hs:=sizeLine_eq;rw[uA];refine⟨bg0,λl hl0=>?_⟩;have s1:=ac hl0 (.lst []);have e1:upd H l (.lst []) l=some (.lst []):=aa
 left
 generalize upd H l (.lst [])=H1 at s1 e1 ⊢;show tSeq (tWhile _ _) _ _ [some (vS t),some (.ref l),some (.int ((0:Nat):Int))] H1;refine bm (λσ' H'=>σ'=[some (vS t),some (.ref l),some (.int (t.length:Nat))]/\Same H H'/\∃n pre,ClAt t t.length n pre/\H' l=some (.lst ((pre.take n).map V.int))) (λN hN=>?_) ?_
 ·refine cA (λm σ' H'=>∃(p n:Nat) (pre:List Int),σ'=[some (vS t),some (.ref l),some (.int (p:Nat))]/\Same H H'/\H' l=some (.lst ((pre.take n).map V.int))/\p<=t.length/\m=t.length - p/\ClAt t p n pre) t.length ⟨0,0,[],rfl,s1,e1,l10 _,rfl, .start t⟩ ?_;rintro m σ' H2 ⟨p,n,pre,rfl,s2,e2,hp,rfl,hA⟩;refine⟨decide (p < t.length),λR k=>⟨_,rfl,_,rfl,_,rfl,bigS nofun,_,_,rfl,rfl,_,rfl,?_⟩,λhc H3 s3=>?_,λhc H3 s3=>?_⟩
  ·rw[aA,show decide ((p:Int) < ((t.length:Nat):Int))=decide (p < t.length) by rw[decide_eq_decide];omega];exact k _ (Same.refl _)
  ·have hpl:p < t.length:=of_decide_eq_true hc;have e3:=s3 _ _ e2;have s23:=s2.trans s3;have hn:=hA.le;have hpn:(pre.take n).length=n:=by rw[l30,hA.len];omega
   refine⟨_,rfl,_,rfl,t,p,rfl,hpl,by omega,λH4 s4=>⟨_,rfl,?_⟩⟩;have e4:=s4 _ _ e3;have s24:=s23.trans s4;by_cases hk:az (t.drop p)=true
   ·rw[hk];refine iteT ?_;obtain⟨pre',hA',hpre,hle⟩:=hA.take hk;refine⟨_,rfl,_,_,rfl,rfl,?_⟩;dsimp only[sA,sB];refine⟨t.length - (p+2),by omega,p+2,n,pre',?_,s24,by rw[hpre];exact e4,hle,rfl,hA'⟩;rw[show ((p:Int)+2)=((p+2:Nat):Int) by omega]
   ·have hk':az (t.drop p)=false:=Bool.eq_false_iff.mpr hk;rw[hk'];refine iteF ?_;have hT:Tells (tTest (tOp rEq (tOp rIxS (tVar 0) (tVar 2)) (tC (.str "]")))) [some (vS t),some (V.ref l),some (V.int (p:Int))] H4 (decide ([t.getD p 0]=[93])):=t_eq _ [93] rfl λR' r=>by
     have:=wI (σ:=[some (vS t),some (V.ref l),some (V.int (p:Int))]) (H:=H4) (ta:=tVar 0) (tb:=tVar 2) (l:=t) (i:=(p:Int)) nofun (ev_v rfl) (ev_v rfl) nofun nofun;rw[l36] at this;exact this R' r
    by_cases hx:t.getD p 0=93
    ·obtain⟨pre',hA',hpre⟩:=hA.bar hpl hk' hx;refine bU (hT.eq (decide_eq_true (by rw[hx]))) λH5 s5=>?_;have e5:=s5 _ _ e4;refine⟨_,rfl, .inl ⟨rfl,_,SqL.of e5⟩,_,rfl,bg1,λu hu=>?_⟩;have s6:=ac hu (.lst [.int (p:Int)]);have e6:upd H5 u (.lst [V.int (p:Int)]) u=some (.lst [.int (p:Int)]):=aa;generalize upd H5 u (.lst [V.int (p:Int)])=H6 at s6 e6 ⊢;refine⟨_,rfl,_,rfl,l,_,rfl, .inl (SqL.of (s6 _ _ e5)),_,_,rfl,rfl,u,(p:Int) - (n:Int),_,rfl,?_,e6,by omega,by omega,?_,λv hv=>?_⟩
     ·rw[l0,hpn]
     ·rw[hs];show 1 * _<=_;omega
     have tn:((p:Int) - (n:Int)).toNat=p - n:=by omega
     rw[tn,i9];have s7:=ac hv (.lst (List.replicate (p - n) (V.int (p:Int))));have e7:upd H6 v (.lst (List.replicate (p - n) (V.int (p:Int)))) v=some (.lst (List.replicate (p - n) (V.int (p:Int)))):=aa;generalize upd H6 v (.lst (List.replicate (p - n) (V.int (p:Int))))=H7 at s7 e7 ⊢;have s57:=s6.trans s7;refine⟨l,v,_,_,rfl,rfl,s57 _ _ e5,e7,?_,?_⟩
     ·rw[l0,hpn,l32,hs];omega
     refine⟨_,rfl,_,_,rfl,rfl,?_⟩;dsimp only[sA,sB];refine⟨t.length - (p+1),by omega,p+1,p,pre',?_,af hl0 ((s24.trans s5).trans s57),?_,by omega,rfl,hA'⟩
     ·rw[show ((p:Int)+1)=((p+1:Nat):Int) by omega]
     ·rw[aa,hpre,l15,l60]
    ·obtain⟨pre',hA',hpre⟩:=hA.one hpl hk' hx;refine aU (hT.eq (decide_eq_false λz=>hx (List.cons.inj z).1)) λH5 s5=>?_;refine⟨_,rfl,_,_,rfl,rfl,?_⟩;dsimp only[sA,sB];refine⟨t.length - (p+1),by omega,p+1,n,pre',?_,s24.trans s5,by rw[hpre];exact s5 _ _ e4,by omega,rfl,hA'⟩;rw[show ((p:Int)+1)=((p+1:Nat):Int) by omega]
  ·have hpl:p=t.length:=by have:=of_decide_eq_false hc;omega
   subst hpl;exact hN _ _ ⟨rfl,s2.trans s3,n,pre,hA,s3 _ _ e2⟩
 ·rintro σ' H2 ⟨rfl,s2,n,pre,hA,e2⟩;have hn:=hA.le;have hpn:(pre.take n).length=n:=by rw[l30,hA.len];omega
  refine⟨_,rfl,1,rfl,bg1,λu hu=>?_⟩;have s3:=ac hu (.lst [.int (-1)]);have e3:upd H2 u (.lst [V.int (-1)]) u=some (.lst [.int (-1)]):=aa;generalize upd H2 u (.lst [V.int (-1)])=H3 at s3 e3 ⊢;refine⟨_,rfl,_,rfl,bigS nofun,_,rfl,l,_,rfl, .inl (SqL.of (s3 _ _ e2)),_,_,rfl,rfl,u,(t.length:Int) - (n:Int),_,rfl,?_,e3,by omega,by omega,?_,λv hv=>?_⟩
  ·rw[l0,hpn,aA]
  ·rw[hs];show 1 * _<=_;omega
  have tn:((t.length:Int) - (n:Int)).toNat=t.length - n:=by omega
  rw[tn,i9];have s4:=ac hv (.lst (List.replicate (t.length - n) (V.int (-1))));have e4:upd H3 v (.lst (List.replicate (t.length - n) (V.int (-1)))) v=some (.lst (List.replicate (t.length - n) (V.int (-1)))):=aa;generalize upd H3 v (.lst (List.replicate (t.length - n) (V.int (-1))))=H4 at s4 e4 ⊢;have s24:=(s2.trans s3).trans s4;refine⟨l,v,_,_,rfl,rfl,(s3.trans s4) _ _ e2,e4,?_,λr hr2=>?_⟩
  ·rw[l0,hpn,l32,hs];omega
  refine q r _ (s24.trans (ac hr2 _)) (s24.free hr2) ?_;rw[aa,hA.fin,l15,l60]
end
end K15
namespace Lw
open PySem L2 Lm
def sw {c:Nat}{r:List Nat}(h:c≠92):az (c::r)=false:=by
 unfold az;split
 ·rename_i z;exact absurd (List.cons.inj z).1 h
 ·rfl
def vi {r r2:List Nat}{k:Nat}(h:nxtC r=some (k+1))(h2:r.drop (k+2)=40::r2):bw r=(nameAt 41 r2).map λ(n,r3)=>(Pc.link (freeC (r.take (k+1))) n,r3):=by
 unfold bw;rw[h]
 try dsimp only
 rw[h2];rfl
def free_one' {x:Nat}{r:List Nat}(h:az (x::r)=false):freeC (x::r)=x::freeC r:=by
 cases r with
 |nil=>rfl
 |cons y r=>
  show (if x=92/\takenC.contains y=true then y::freeC r else x::freeC (y::r))=_;rw[if_neg λz=>by rw[takes_iff.mpr z] at h;cases h]
def free_take' {x y:Nat}{r:List Nat}(h:az (x::y::r)=true):freeC (x::y::r)=y::freeC r:=by
 show (if x=92/\takenC.contains y=true then y::freeC r else x::freeC (y::r))=_;rw[if_pos (takes_iff.mp h)]
end Lw
namespace K15
open PySem L2 Lm Lw
section
variable {c:Cp}{BT:Addr}
abbrev lw:Stmt:=top 60
inductive spCodeAt (c:Cp)(vs:List V)(H:Hp)(Q:VK)(u3:XK):Prop
 |mk (t:List Nat)(p:Nat)(_:vs=[vS t, .int (p:Int)])(_:p < t.length)(_:t.length<=100000)(_:Asc t)(_:Fnd c t.length H Q (bV (t.drop (p+1))))
def pP (F:Fun K "code_at" "code_at" lw f fd)(T:TxI K mg c BT)(DN:New P w K mg base 1 "Code" c.Code p9 (spInit1 c.Code "signs")):FnOk P w K mg base CX0 3 f fd p6 (spCodeAt c):=by
 have sc:FnScope ["text","place","end"] p6 (ad lw):=mkS;refine F.oks sc λH Q hr h=>?_;obtain⟨t,p,rfl,hp,hl,ha,q⟩:=h;refine ap (xbc (xst (i:=2) sc.nd (xm plainAttrs_str slot_str_find type_str_find so (xv 0) (xac xstr (xac (xop au (xv 1) xint) xa0))))
  (xbc (xif (xor (ay dL (xv 2) xint (al _)) (xor1 (ay bx (xv 2) (xop au (xv 1) xint) (al _)))).xt (xb1 (xret xnon)) xb0)
  (xb1 (xret (xtup (xac (xnew DN hr.mono (xac (xsl bt (xv 0) (xo1 (xop au (xv 1) xint)) (xo1 (xv 2))) xa0)) (xac (xop au (xv 2) xint) xa0))))))) ?_
 rw[xQ];refine⟨_,rfl,rfl,_,rfl,_,_,rfl,rfl,t,96,p+1,rfl,rfl,?_⟩
 left
 have tt:∀e:Int,Tells (tOr (tTest (tOp (rI0 λi j => .bl (decide (i < j))) (tVar 2) (tC (.int 0)))) (tTest (tOp rEq (tVar 2) (tOp (rI0 λi j => .int (i+j)) (tVar 1) (tC (.int 1)))))) [some (vS t),some (V.int (p:Int)),some (V.int e)] H (decide (e < 0)||decide (e=(p:Int)+1)):=λe=>t_or _ _ (cR (ev_v rfl) ev_c rfl) λ_ H1 _=>yc (ev_v rfl) (pb (ev_v rfl) ev_c rfl);have hw:(t.take t.length).drop (p+1)=t.drop (p+1):=by rw[l80]
 cases hc:cutAt 96 (t.drop (p+1)) with
 |none=>
  rw[i6 (by rw[hw];exact hc)];have e0:bV (t.drop (p+1))=none:=by unfold bV;rw[hc]
  rw[e0] at q;exact bU ((tt _).eq (by rw[decide_eq_true ∅];rfl)) λH1 s1=>q H1 s1
 |some ab=>
  obtain⟨a,b⟩:=ab;rw[i7 (by rw[hw];exact hc)];obtain⟨he,_⟩:=cutAt_eq hc;have w6:=congrArg List.length he;rw[l13,l6,l4] at w6;cases a with
  |nil=>
   have e0:bV (t.drop (p+1))=none:=by unfold bV;rw[hc]
   rw[e0] at q;refine bU ((tt _).eq ?_) λH1 s1=>q H1 s1;rw[Bool.or_eq_true];exact .inr (decide_eq_true (by rw[l25];omega))
  |cons x a=>
   have e0:bV (t.drop (p+1))=some (.code (x::a),b):=by unfold bV;rw[hc]
   rw[e0] at q;have hal:0 < (x::a).length:=by rw[l4];omega
   have has:Asc (x::a):=((ha.drop (p+1)).sub λc hc=>by rw[he];exact l49 _ hc);generalize x::a=a at *;refine aU ((tt _).eq ?_) λH1 s1=>?_
   ·rw[decide_eq_false nofun,decide_eq_false nofun];rfl
   refine pd (l:=t) (a:=a) nofun (ev_v rfl) (iS (i:=((p+1:Nat):Int)) (pb (ev_v rfl) ev_c rfl)) (iS (i:=((p+1+a.length:Nat):Int)) (ev_v rfl)) ?_ _ ?_
   ·rw[gt,he,show p+1+a.length - (p+1)=a.length by omega,l55]
   intro y dx hy hdx hne;refine⟨y,dx,_,rfl,aa,rfl,_,rfl,_,_,rfl,rfl,bg2,λtp htp=>?_⟩;obtain⟨m1,m2⟩:=vh (C:=c.Code) (o := .ins c.Code dx [("signs",vS a)]) s1 hy hdx;refine q tp (.ref y) _ (m1.trans (ac htp _)) ?_ ⟨y,rfl,gy has nofun,dx,i8 htp _ _ _ m2⟩;rw[aa];show some (HO.tup [V.ref y,V.int (((p+1+a.length:Nat):Int)+1)])=_;rw[show ((p+1+a.length:Nat):Int)+1=((t.length - b.length:Nat):Int) by omega]
abbrev lx:Stmt:=top 61
inductive spMarkAt (c:Cp)(vs:List V)(H:Hp)(Q:VK)(u3:XK):Prop
 |mk (t:List Nat)(p:Nat)(r:List Nat)(_:vs=[vS t, .int (p:Int)])(_:t.drop p=91::r)(_:t.length<=100000)(_:Asc t)(_:Fnd c t.length H Q (b6 r))
def pQ (F:Fun K "mark_at" "mark_at" lx f fd)(T:TxI K mg c BT)(DO:New P w K mg base 1 "Mark" c.Mark p16 (spInit1 c.Mark "name"))
  (Dg:Def P w K mg base 1 "is_name" ["thing"] spName)(Dj:Def P w K mg base 2 "name_of" ["thing"] spNameOf):FnOk P w K mg base CX0 3 f fd p6 (spMarkAt c):=by
 have sc:FnScope ["text","place","begin","end"] p6 (ad lx):=mkS;refine F.oks sc λH Q hr h=>?_;obtain⟨t,p,r,rfl,hd,hl,ha,q⟩:=h;refine ap (xbc (xif (ge (bv (xm plainAttrs_str slot_str_startswith type_str_startswith gw (xv 0) (xac xstr (xac (xv 1) xa0))))) (xb1 (xret xnon)) xb0)
  (xbc (xst (i:=2) sc.nd (xop au (xv 1) xint))
  (xbc (xst (i:=3) sc.nd (xm plainAttrs_str slot_str_find type_str_find mI (xv 0) (xac xstr (xac (xv 2) (xac (xop au (xop au (xv 2) (xgI T.u12)) xint) xa0)))))
  (xbc (xif (xor (ay dL (xv 3) xint (al _)) (xor1 (ge (bv (xcd Dg hr (xac (xsl bt (xv 0) (xo1 (xv 2)) (xo1 (xv 3))) xa0)))))).xt (xb1 (xret xnon)) xb0)
  (xb1 (xret (xtup (xac (xnew DO hr.mono (xac (xcd Dj hr (xac (xsl bt (xv 0) (xo1 (xv 2)) (xo1 (xv 3))) xa0)) xa0)) (xac (xop au (xv 3) xint) xa0))))))))) ?_
 rw[xS];have tS:Tells (tNot (tB (tBM K "str" rStartsAt (tVar 0) (tCons (tC (.str "[^")) (tCons (tVar 1) tNil))))) [some (vS t),some (V.int (p:Int)),none,none] H (!([91,94]:List Nat).isPrefixOf (t.drop p)):=j6 _ (im (z:=[91,94]) rfl (by simp) (ev_v rfl) (ev_v rfl));rw[hd] at tS;by_cases hr:∃r',r=94::r';rotate_left
 ·have e0:b6 r=none:=by
   unfold b6;split
   ·exact absurd ⟨_,rfl⟩ hr
   ·rfl
  have e1:([91,94]:List Nat).isPrefixOf (91::r)=false:=by
   cases r with
   |nil=>rfl
   |cons y r'=>
    rw[Bool.eq_false_iff];intro z;simp[List.isPrefixOf] at z;exact hr ⟨r',by rw[<- z]⟩
  rw[e0] at q;exact bU (tS.eq (by rw[e1];rfl)) λH1 s1=>q H1 s1
 obtain⟨r,rfl⟩:=hr;have hd2:t.drop (p+2)=r:=by rw[<- l27,hd];rfl
 have w6:=congrArg List.length hd;rw[l13,l4,l4] at w6;refine aU (tS.eq rfl) λH1 s1=>?_;refine⟨_,rfl,_,_,rfl,rfl,?_⟩
 left
 refine⟨_,rfl,rfl,_,rfl,_,rfl,_,_,rfl,rfl,_,_,rfl,rfl,t,93,p+2,p+2+13,rfl,rfl,?_⟩
 left
 have hw:cutAt 93 ((t.take (min (p+2+13) t.length)).drop (p+2))=cutAt 93 (r.take 13):=by rw[win,hd2]
 cases hc:cutAt 93 (r.take 13) with
 |none=>
  rw[i6 (hw.trans hc)];have e0:b6 (94::r)=none:=by
   show (Lw.nameAt 93 r).map _=none;unfold Lw.nameAt;rw[hc];rfl
  rw[e0] at q;exact bU (t_or true false (cR (ev_v rfl) ev_c (by rfl)) (λz=>Bool.noConfusion z)) λH2 s2=>q H2 (s1.trans s2)
 |some ab=>
  obtain⟨a,b⟩:=ab;rw[i7 (hw.trans hc)];obtain⟨he,_⟩:=cutAt_eq hc;have hal:a.length+1<=r.length/\a.length<=12:=by
   have:=congrArg List.length he;rw[l30,l6,l4] at this;omega
  have hta:r.take a.length=a:=by
   have:=congrArg (List.take a.length) he;rw[List.take_take,l55,l51 nofun] at this;exact this
  have has:Asc a:=((ha.drop (p+2)).take a.length).sub λc hc=>by rw[hd2,hta];exact hc
  have esl:∀H2,Ev (tSl rSlS (tVar 0) (tPart (tVar 2)) (tPart (tVar 3))) [some (vS t),some (V.int (p:Int)),some (V.int ((p:Int)+2)),some (V.int ((p+2+a.length:Nat):Int))] H2 (vS a):=λH2=>by
   refine pd (l:=t) (a:=a) nofun (ev_v rfl) (iS (i:=((p+2:Nat):Int)) (ev_v rfl)) (iS (i:=((p+2+a.length:Nat):Int)) (ev_v rfl)) ?_;rw[gt,hd2,show p+2+a.length - (p+2)=a.length by omega,hta]
  have tt:Tells (tOr (tTest (tOp (rI0 λi j => .bl (decide (i < j))) (tVar 3) (tC (.int 0)))) (tNot (tB (tCall spName [] E0 (tCons (tSl rSlS (tVar 0) (tPart (tVar 2)) (tPart (tVar 3))) tNil))))) [some (vS t),some (V.int (p:Int)),some (V.int ((p:Int)+2)),some (V.int ((p+2+a.length:Nat):Int))] H1 (false || !aH a):=by
   refine t_or false _ (cR (ev_v rfl) ev_c ?_) λ_ H2 s2=>j6 _ λR k=>esl H2 _ ⟨_,rfl,nofun,λH3 s3=>⟨_,rfl,?_⟩⟩
   ·rw[decide_eq_false nofun]
   ·exact k H3 s3
  by_cases hn:aH a=true;rotate_left
  ·have hn:=Bool.eq_false_iff.mpr hn;have e0:b6 (94::r)=none:=by
    show (Lw.nameAt 93 r).map _=none;unfold Lw.nameAt;rw[hc];show (if aH a=true then _ else none).map _=none;rw[hn];rfl
   rw[e0] at q;exact bU (tt.eq (by rw[hn];rfl)) λH2 s2=>q H2 (s1.trans s2)
  have e0:b6 (94::r)=some (.note (bb a),r.drop (a.length+1)):=by
   show (Lw.nameAt 93 r).map _=_;unfold Lw.nameAt;rw[hc];show (if aH a=true then _ else none).map _=_;rw[if_pos hn];rfl
  rw[e0] at q;refine aU (tt.eq (by rw[hn];rfl)) λH2 s2=>?_;refine esl H2 _ ⟨a,rfl,by omega,hn,λH3 s3 y dx hy hdx hne=>?_⟩;refine⟨y,dx,_,rfl,aa,rfl,_,rfl,_,_,rfl,rfl,bg2,λtp htp=>?_⟩;obtain⟨m1,m2⟩:=vh (C:=c.Mark) (o := .ins c.Mark dx [("name",vS (bb a))]) ((s1.trans s2).trans s3) hy hdx;refine q tp (.ref y) _ (m1.trans (ac htp _)) ?_ ⟨y,rfl,gy has.small (by unfold bb;rw[l0];omega),dx,i8 htp _ _ _ m2⟩;rw[aa,l13];show some (HO.tup [V.ref y,V.int (((p+2+a.length:Nat):Int)+1)])=_;rw[show ((p+2+a.length:Nat):Int)+1=((t.length - (r.length - (a.length+1)):Nat):Int) by omega]
abbrev ly:Stmt:=top 62
inductive spLinkAt (c:Cp)(vs:List V)(H:Hp)(Q:VK)(u3:XK):Prop
 |mk (t:List Nat)(p:Nat)(r:List Nat)(_:vs=[vS t, .int (p:Int), .int (cG (p+1) (nxtC r))])(_:t.drop p=91::r)(_:t.length<=100000)(_:Asc t)(_:Fnd c t.length H Q (bw r))
def pR (F:Fun K "link_at" "link_at" ly f fd)(T:TxI K mg c BT)(DP:New P w K mg base 1 "Link" c.Link p17 (spInit2 c.Link "words" "name"))
  (DQ:Def P w K mg base 2 "freed" ["text"] spFreed)(Dg:Def P w K mg base 1 "is_name" ["thing"] spName)(Dj:Def P w K mg base 2 "name_of" ["thing"] spNameOf):FnOk P w K mg base CX0 3 f fd p24 (spLinkAt c):=by
 have sc:FnScope ["text","place","closing","begin","end"] p24 (ad ly):=mkS;refine F.oks sc λH Q hr h=>?_;obtain⟨t,p,r,rfl,hd,hl,ha,q⟩:=h;refine ap (xbc (xif (xor (ay xN (xv 2) (xop au (xv 1) xint) (al _)) (xor1 (ge (bv (xm plainAttrs_str slot_str_startswith type_str_startswith gw (xv 0) (xac xstr (xac (xv 2) xa0))))))).xt (xb1 (xret xnon)) xb0)
  (xbc (xst (i:=3) sc.nd (xop au (xv 2) xint))
  (xbc (xst (i:=4) sc.nd (xm plainAttrs_str slot_str_find type_str_find mI (xv 0) (xac xstr (xac (xv 3) (xac (xop au (xop au (xv 3) (xgI T.u12)) xint) xa0)))))
  (xbc (xif (xor (ay dL (xv 4) xint (al _)) (xor1 (ge (bv (xcd Dg hr (xac (xsl bt (xv 0) (xo1 (xv 3)) (xo1 (xv 4))) xa0)))))).xt (xb1 (xret xnon)) xb0)
  (xb1 (xret (xtup (xac (xnew DP hr.mono (xac (xcd DQ hr (xac (xsl bt (xv 0) (xo1 (xop au (xv 1) xint)) (xo1 (xv 2))) xa0)) (xac (xcd Dj hr (xac (xsl bt (xv 0) (xo1 (xv 3)) (xo1 (xv 4))) xa0)) xa0))) (xac (xop au (xv 4) xint) xa0))))))))) ?_
 rw[uB];have hd1:t.drop (p+1)=r:=by rw[<- l27,hd];rfl
 have w6:=congrArg List.length hd;rw[l13,l4] at w6;have early:∀v:Int,v<=(p:Int)+1->Tells (tOr (tTest (tOp (rI0 λi j => .bl (decide (i<=j))) (tVar 2) (tOp (rI0 λi j => .int (i+j)) (tVar 1) (tC (.int 1))))) (tNot (tB (tBM K "str" rStartsAt (tVar 0) (tCons (tC (.str "](")) (tCons (tVar 2) tNil)))))) [some (vS t),some (V.int (p:Int)),some (V.int v),none,none] H true:=λv hv=>t_or true false (cR (ev_v rfl) (pb (ev_v rfl) ev_c rfl) (by rw[decide_eq_true hv])) (λz=>Bool.noConfusion z);cases hx:nxtC r with
 |none=>
  have e0:bw r=none:=by unfold bw;rw[hx]
  rw[e0] at q;exact bU (early (-1) nofun) λH1 s1=>q H1 s1
 |some k=>
 show (tSeq _ _:TS) _ [some (vS t),some (V.int (p:Int)),some (V.int ((p+1+k:Nat):Int)),none,none] H;cases k with
 |zero=>
  have e0:bw r=none:=by unfold bw;rw[hx]
  rw[e0] at q;exact bU (early _ nofun) λH1 s1=>q H1 s1
 |succ k=>
 obtain⟨u,v,hu,hul⟩:=il hx;have hrl:=congrArg List.length hu;rw[l6,l4] at hrl;have hdk:t.drop (p+1+(k+1))=93::v:=by
  rw[<- l27,hd1,hu,<- hul,l48]
 have hdv:r.drop (k+2)=v:=by
  rw[show k+2=k+1+1 by omega,<- l27,hu,<- hul,l48];rfl
 have tS:Tells (tOr (tTest (tOp (rI0 λi j => .bl (decide (i<=j))) (tVar 2) (tOp (rI0 λi j => .int (i+j)) (tVar 1) (tC (.int 1))))) (tNot (tB (tBM K "str" rStartsAt (tVar 0) (tCons (tC (.str "](")) (tCons (tVar 2) tNil)))))) [some (vS t),some (V.int (p:Int)),some (V.int ((p+1+(k+1):Nat):Int)),none,none] H (false || !([93,40]:List Nat).isPrefixOf (t.drop (p+1+(k+1)))):=
  t_or false _ (cR (ev_v rfl) (pb (ev_v rfl) ev_c rfl) (by rw[decide_eq_false nofun])) λ_ H1 s1=>j6 _ (im (z:=[93,40]) rfl (by simp) (ev_v rfl) (ev_v rfl))
 rw[hdk] at tS;by_cases hr:∃r2,v=40::r2;rotate_left
 ·have e0:bw r=none:=by
   unfold bw;rw[hx];show (match r.drop (k+2) with |40::r2=>(Lw.nameAt 41 r2).map λ(n,r3)=>(Pc.link (freeC (r.take (k+1))) n,r3) |_=>none)=none;rw[hdv];split
   ·exact absurd ⟨_,rfl⟩ hr
   ·rfl
  have e1:([93,40]:List Nat).isPrefixOf (93::v)=false:=by
   cases v with
   |nil=>rfl
   |cons y r'=>
    rw[Bool.eq_false_iff];intro z;simp[List.isPrefixOf] at z;exact hr ⟨r',by rw[<- z]⟩
  rw[e0] at q;exact bU (tS.eq (by rw[e1];rfl)) λH1 s1=>q H1 s1
 obtain⟨r2,rfl⟩:=hr;rw[l4] at hrl;have hd2:t.drop (p+1+(k+1)+2)=r2:=by rw[<- l27,hdk];rfl
 refine aU (tS.eq rfl) λH1 s1=>?_;refine⟨_,rfl,_,_,rfl,rfl,?_⟩
 left
 have hpos:((p+1+(k+1):Nat):Int)+2=((p+1+(k+1)+2:Nat):Int):=rfl;rw[hpos];have eL:=vi hx hdv;rw[eL] at q;clear eL tS early;generalize hb:p+1+(k+1)+2=bg at *;refine⟨_,rfl,rfl,_,rfl,_,rfl,_,_,rfl,rfl,_,_,rfl,rfl,t,41,bg,bg+13,rfl,rfl,?_⟩
 left
 have hw:cutAt 41 ((t.take (min (bg+13) t.length)).drop bg)=cutAt 41 (r2.take 13):=by rw[win,hd2]
 cases hc:cutAt 41 (r2.take 13) with
 |none=>
  rw[i6 (hw.trans hc)];have e0:Lw.nameAt 41 r2=none:=by unfold Lw.nameAt;rw[hc]
  rw[e0] at q;exact bU (t_or true false (cR (ev_v rfl) ev_c (by rfl)) (λz=>Bool.noConfusion z)) λH2 s2=>q H2 (s1.trans s2)
 |some ab=>
  obtain⟨a,b⟩:=ab;rw[i7 (hw.trans hc)];obtain⟨he,_⟩:=cutAt_eq hc;have hal:a.length+1<=r2.length/\a.length<=12:=by
   have:=congrArg List.length he;rw[l30,l6,l4] at this;omega
  have hta:r2.take a.length=a:=by
   have:=congrArg (List.take a.length) he;rw[List.take_take,l55,l51 nofun] at this;exact this
  have has:Asc a:=((ha.drop bg).take a.length).sub λc hc=>by rw[hd2,hta];exact hc
  have esl:∀H2,Ev (tSl rSlS (tVar 0) (tPart (tVar 3)) (tPart (tVar 4))) [some (vS t),some (V.int (p:Int)),some (V.int ((p+1+(k+1):Nat):Int)),some (V.int (bg:Int)),some (V.int ((bg+a.length:Nat):Int))] H2 (vS a):=λH2=>by
   refine pd (l:=t) (a:=a) nofun (ev_v rfl) (iS (i:=(bg:Int)) (ev_v rfl)) (iS (i:=((bg+a.length:Nat):Int)) (ev_v rfl)) ?_;rw[gt,hd2,show bg+a.length - bg=a.length by omega,hta]
  have tt:Tells (tOr (tTest (tOp (rI0 λi j => .bl (decide (i < j))) (tVar 4) (tC (.int 0)))) (tNot (tB (tCall spName [] E0 (tCons (tSl rSlS (tVar 0) (tPart (tVar 3)) (tPart (tVar 4))) tNil))))) [some (vS t),some (V.int (p:Int)),some (V.int ((p+1+(k+1):Nat):Int)),some (V.int (bg:Int)),some (V.int ((bg+a.length:Nat):Int))] H1 (false || !aH a):=by
   refine t_or false _ (cR (ev_v rfl) ev_c ?_) λ_ H2 s2=>j6 _ λR k=>esl H2 _ ⟨_,rfl,nofun,λH3 s3=>⟨_,rfl,?_⟩⟩
   ·rw[decide_eq_false nofun]
   ·exact k H3 s3
  by_cases hn:aH a=true;rotate_left
  ·have hn:=Bool.eq_false_iff.mpr hn;have e0:Lw.nameAt 41 r2=none:=by
    unfold Lw.nameAt;rw[hc];show (if aH a=true then _ else none)=none;rw[hn];rfl
   rw[e0] at q;exact bU (tt.eq (by rw[hn];rfl)) λH2 s2=>q H2 (s1.trans s2)
  have e0:Lw.nameAt 41 r2=some (bb a,r2.drop (a.length+1)):=by
   unfold Lw.nameAt;rw[hc];show (if aH a=true then _ else none)=_;rw[if_pos hn]
  rw[e0] at q;refine aU (tt.eq (by rw[hn];rfl)) λH2 s2=>?_;have hwl:(r.take (k+1)).length<=100000:=by rw[l30];omega
  have haw:Asc (r.take (k+1)):=((ha.drop (p+1)).sub λc hc=>by rw[hd1];exact l70 hc);refine pd (l:=t) (a:=r.take (k+1)) nofun (ev_v rfl) (iS (i:=((p+1:Nat):Int)) (pb (ev_v rfl) ev_c rfl)) (iS (i:=((p+1+(k+1):Nat):Int)) (ev_v rfl)) ?_ _ ⟨_,rfl,hwl,λH3 s3=>?_⟩
  ·rw[gt,hd1,show p+1+(k+1) - (p+1)=k+1 by omega]
  refine esl H3 _ ⟨a,rfl,by omega,hn,λH4 s4 y dx hy hdx hne=>?_⟩;refine⟨y,dx,_,_,rfl,aa,rfl,_,rfl,_,_,rfl,rfl,bg2,λtp htp=>?_⟩;have hfl:=eG (r.take (k+1));obtain⟨m1,m2⟩:=wU (C:=c.Link) (o1 := .ins c.Link dx [("words",vS (freeC (r.take (k+1))))]) (o := .ins c.Link dx [("words",vS (freeC (r.take (k+1)))),("name",vS (bb a))]) (((s1.trans s2).trans s3).trans s4) hy hdx;refine q tp (.ref y) _ (m1.trans (ac htp _)) ?_ ⟨y,rfl,gy (haw.sub λc hc=>fN hc) nofun,gy has.small (by unfold bb;rw[l0];omega),dx,i8 htp _ _ _ m2⟩;rw[aa,l13];show some (HO.tup [V.ref y,V.int (((bg+a.length:Nat):Int)+1)])=_;rw[show ((bg+a.length:Nat):Int)+1=((t.length - (r2.length - (a.length+1)):Nat):Int) by omega]
abbrev ja:Stmt:=top 57
inductive spPieceAt (c:Cp)(vs:List V)(H:Hp)(Q:VK)(u3:XK):Prop
 |mk (t:List Nat)(p:Nat)(cl:Addr)(pc:Pc)(r:List Nat)(_:vs=[vS t, .int (p:Int), .ref cl])(_:H cl=some (.lst ((clGo 0 t).map V.int)))(_:p < t.length)(_:t.length<=100000)(_:Asc t)(_:Al t p)(_:gv (t.drop p)=some (pc,r))(_:Fnd c t.length H Q (some (pc,r)))
def nL (F:Fun K "piece_at" "piece_at" ja f fd)(T:TxI K mg c BT)(Dk:Def P w K mg base 1 "takes_next" p6 spTakes)
  (DR:Def P w K mg base 3 "code_at" p6 (spCodeAt c))(DS:Def P w K mg base 3 "mark_at" p6 (spMarkAt c))(DT:Def P w K mg base 3 "link_at" p24 (spLinkAt c)):FnOk P w K mg base CX0 4 f fd p25 (spPieceAt c):=by
 have sc:FnScope ["text","place","closings","sign","found"] p25 (ad ja):=mkS;refine F.oks sc λH Q hr h=>?_;obtain⟨t,p,cl,pc,r,rfl,ecl,hp,hl,ha,hal,hst,q⟩:=h;refine ap (xbc (xst (i:=3) sc.nd (xix dq (xv 0) (xv 1) (λ_ _=>rfl)))
  (xbc (xif (bv (xcd Dk hr (xac (xv 0) (xac (xv 1) xa0)))) (xb1 (xret (xtup (xac (xix dq (xv 0) (xop au (xv 1) xint) (λ_ _=>rfl)) (xac (xop au (xv 1) xint) xa0))))) xb0)
  (xbc (xif (ay bx (xv 3) xstr (al _)) (xb1 (xret (xtup (xac xnon (xac (xop au (xv 1) xint) xa0))))) xb0)
  (xbc (xst (i:=4) sc.nd xnon)
  (xbc (xif (ay bx (xv 3) xstr (al _)) (xb1 (xst (i:=4) sc.nd (xcd DR hr (xac (xv 0) (xac (xv 1) xa0))))) xb0)
  (xbc (xif (ay bx (xv 3) xstr (al _)) (xbc (xst (i:=4) sc.nd (xcd DS hr (xac (xv 0) (xac (xv 1) xa0))))
  (xb1 (xif (ay tu (xv 4) xnon (al _)) (xb1 (xst (i:=4) sc.nd (xcd DT hr (xac (xv 0) (xac (xv 1) (xac (xix ax (xv 2) (xv 1) (λ_ _=>rfl)) xa0)))))) xb0))) xb0)
  (xb1 (xret (xifE (ay tu (xv 4) xnon (al _)) (xtup (xac (xv 3) (xac (xop au (xv 1) xint) xa0))) (xv 4)))))))))) ?_
 rw[uB];obtain⟨x,r0,hd⟩:∃x r0,t.drop p=x::r0:=⟨_,_,l28 hp⟩;have w6:=congrArg List.length hd;rw[l13,l4] at w6;have hgx:t.getD p 0=x:=by
  have:(t.drop p)[0]? = some x:=by rw[hd];rfl
  rw[List.getElem?_drop,Nat.add_zero] at this;rw[l23,this];rfl
 refine⟨_,rfl,_,rfl,nG nofun nofun nofun ?_⟩;rw[l36,hgx]
 left
 refine⟨_,rfl,_,rfl,t,p,rfl,hp,by omega,λH1 s1=>⟨_,rfl,?_⟩⟩;have hst':(if az (x::r0) then some (Pc.sign (r0.headD 0),r0.tail) else if x=42 then some (Pc.star,r0) else if x=96 then some ((bV r0).getD (.sign 96,r0)) else if x=91 then some (((b6 r0).or (bw r0)).getD (.sign 91,r0)) else some (Pc.sign x,r0))=some (pc,r):=by rw[hd] at hst;exact hst
 have num:∀k:Nat,p+k<=t.length->∀r':List Nat,r'.length+(p+k)=t.length->(p:Int)+(k:Int)=((t.length - r'.length:Nat):Int):=λk _ r' _=>by omega
 by_cases hk:az (t.drop p)=true
 ·rw[hk];refine iteT ?_;obtain⟨y,r2,hy⟩:=bE hk;rw[hd] at hy hk;cases hy;rw[if_pos hk] at hst';cases hst';rw[l4] at w6;have hg1:t.getD (p+1) 0=y:=by
   have:(t.drop p)[1]? = some y:=by rw[hd];rfl
   rw[List.getElem?_drop] at this;rw[l23,this];rfl
  refine⟨_,rfl,_,rfl,_,_,rfl,rfl,nG nofun nofun nofun ⟨_,rfl,_,_,rfl,rfl,bg2,λtp htp=>?_⟩⟩;refine q tp (vS [y]) _ (s1.trans (ac htp _)) ?_ rfl;rw[aa,show ((p:Int)+1).toNat=p+1 by omega,hg1];show some (HO.tup [vS [y],V.int ((p:Int)+2)])=some (HO.tup [vS [y],V.int ((t.length - r2.length:Nat):Int)]);rw[show (p:Int)+2=((t.length - r2.length:Nat):Int) by omega]
 have hk':az (t.drop p)=false:=Bool.eq_false_iff.mpr hk;rw[hk'];refine iteF ?_;rw[hd] at hk';rw[if_neg (by rw[hk'];simp)] at hst';have tE:∀(y:Str) (z:Nat) (fv:Option V) (H':Hp),y=S [z]->Tells (tTest (tOp rEq (tVar 3) (tC (.str y)))) [some (vS t),some (V.int (p:Int)),some (V.ref cl),some (vS [x]),fv] H' (decide ([x]=[z])):=λy z fv H' e=>t_eq [x] [z] e (ev_v rfl);have sg:∀z:Nat,[x]=[z] ↔ x=z:=λz=>⟨λh=>(List.cons.inj h).1,λh=>by rw[h]⟩;by_cases h42:x=42
 ·rw[if_pos h42] at hst';cases hst';refine bU ((tE "*" 42 none H1 rfl).eq (decide_eq_true ((sg _).mpr h42))) λH2 s2=>?_;refine⟨_,rfl,_,_,rfl,rfl,bg2,λtp htp=>?_⟩;refine q tp .non _ ((s1.trans s2).trans (ac htp _)) ?_ rfl;rw[aa];show some (HO.tup [V.non,V.int ((p:Int)+1)])=_;rw[show (p:Int)+1=((t.length - r.length:Nat):Int) by omega]
 rw[if_neg h42] at hst';refine aU ((tE "*" 42 none H1 rfl).eq (decide_eq_false λz=>h42 ((sg _).mp z))) λH2 s2=>?_;refine pK ?_;dsimp only[sA,sB];have s12:=s1.trans s2;have fin:∀(v:V) (H3:Hp),Same H H3->((v = .non/\pc = .sign x/\r=r0) ∨ ∃tp u,v = .ref tp/\H3 tp=some (.tup [u, .int ((t.length - r.length:Nat):Int)])/\PcAt c (dif H H3) u pc)->∀Q',(∀v' H',Q v' H'->Q' v' H') →
   tIf (tTest (tOp R_op_isN (tVar 4) (tC .non))) (tTup (tCons (tVar 3) (tCons (tOp (rI0 λi j => .int (i+j)) (tVar 1) (tC (.int 1))) tNil))) (tVar 4) [some (vS t),some (V.int (p:Int)),some (V.ref cl),some (vS [x]),some v] H3 Q':=by
  intro v H3 s3 h Q' kQ;refine⟨_,rfl,rfl,_,rfl,?_⟩;rcases h with ⟨rfl,rfl,rfl⟩ |⟨tp,u,rfl,e3,hu⟩
  ·refine ite2 (λ_=>?_) (λz=>absurd (decide_eq_true rfl) z);refine⟨_,rfl,_,rfl,_,_,rfl,rfl,bg2,λtp htp=>kQ _ _ (q tp (vS [x]) _ (s3.trans (ac htp _)) ?_ rfl)⟩;rw[aa];show some (HO.tup [vS [x],V.int ((p:Int)+1)])=_;rw[show (p:Int)+1=((t.length - r.length:Nat):Int) by omega]
  ·refine ite2 (λz=>nomatch of_decide_eq_true z) (λ_=>⟨_,rfl,kQ _ _ (q tp u H3 s3 e3 hu)⟩)
 by_cases h96:x=96
 ·subst h96;rw[if_pos rfl] at hst';refine bU ((tE "`" 96 _ H2 rfl).eq (decide_eq_true rfl)) λH3 s3=>?_;have s13:=s12.trans s3;have hdr:t.drop (p+1)=r0:=by rw[<- l27,hd];rfl
  refine⟨_,rfl,_,rfl,t,p,rfl,hp,hl,ha,?_⟩;rw[hdr];cases hc:bV r0 with
  |none=>
   intro H4 s4;rw[hc] at hst';cases hst'
   left
   refine aU ((tE "[" 91 _ H4 rfl).eq (decide_eq_false ∅)) λH5 s5=>?_;exact fin .non H5 ((s13.trans s4).trans s5) (.inl ⟨rfl,rfl,rfl⟩) _ λv' H' h=>h
  |some qq=>
   obtain⟨pc',r'⟩:=qq;intro tp v H4 s4 e4 hv;rw[hc] at hst';cases hst'
   left
   refine aU ((tE "[" 91 _ H4 rfl).eq (decide_eq_false ∅)) λH5 s5=>?_;exact fin (.ref tp) H5 ((s13.trans s4).trans s5) (.inr ⟨tp,v,rfl,s5 _ _ e4,hv.same (av s13 s5)⟩) _ λv' H' h=>h
 rw[if_neg h96] at hst';refine aU ((tE "`" 96 _ H2 rfl).eq (decide_eq_false λz=>h96 ((sg _).mp z))) λH3 s3=>?_;have s13:=s12.trans s3;by_cases h91:x=91
 ·subst h91;rw[if_pos rfl] at hst';refine bU ((tE "[" 91 _ H3 rfl).eq (decide_eq_true rfl)) λH4 s4=>?_;have s14:=s13.trans s4;refine⟨_,rfl,_,rfl,t,p,r0,rfl,hd,hl,ha,?_⟩;cases hm:b6 r0 with
  |some qq=>
   obtain⟨pc',r'⟩:=qq;intro tp v H5 s5 e5 hv;rw[hm] at hst';cases hst'
   left
   refine⟨_,rfl,rfl,_,rfl,ite2 (λz=>nomatch of_decide_eq_true z) (λ_=>?_)⟩;exact fin (.ref tp) H5 (s14.trans s5) (.inr ⟨tp,v,rfl,e5,hv.same (av s14 (Same.refl _))⟩) _ λv' H' h=>h
  |none=>
   intro H5 s5;rw[hm] at hst';have s15:=s14.trans s5
   left
   refine⟨_,rfl,rfl,_,rfl,ite2 (λ_=>?_) (λz=>absurd (decide_eq_true rfl) z)⟩;have hcl:=hal.get hd;refine⟨_,rfl,_,rfl,_,rfl,_,rfl,cl,_,(p:Int), .int (cG (p+1) (nxtC r0)),rfl,rfl,SqL.of (s15 _ _ ecl),am (by rw[List.getElem?_map,hcl];rfl),t,p,r0,rfl,hd,hl,ha,?_⟩;cases hk2:bw r0 with
   |none=>
    intro H6 s6;rw[hk2] at hst';cases hst'
    left
    exact fin .non H6 (s15.trans s6) (.inl ⟨rfl,rfl,rfl⟩) _ λv' H' h=>h
   |some qq=>
    obtain⟨pc',r'⟩:=qq;intro tp v H6 s6 e6 hv;rw[hk2] at hst';cases hst'
    left
    exact fin (.ref tp) H6 (s15.trans s6) (.inr ⟨tp,v,rfl,e6,hv.same (av s15 (Same.refl _))⟩) _ λv' H' h=>h
 ·rw[if_neg h91] at hst';cases hst';refine aU ((tE "[" 91 _ H3 rfl).eq (decide_eq_false λz=>h91 ((sg _).mp z))) λH4 s4=>?_;exact fin .non H4 (s13.trans s4) (.inl ⟨rfl,rfl,rfl⟩) _ λv' H' h=>h
abbrev lz:Stmt:=top 56
inductive spPieces (c:Cp)(vs:List V)(H:Hp)(Q:VK)(u3:XK):Prop
 |mk (t:List Nat)(_:vs=[vS t])(_:t.length<=100000)(_:Asc t)(_:∀r us H',Same H H'->H r=none->H' r=some (.lst us)->PcsAt c (dif H H') us (aC t)->Q (.ref r) H')
def pS (F:Fun K "pieces_of" "pieces_of" lz f fd)(T:TxI K mg c BT)(DU:Def P w K mg base 2 "closings_of" ["text"] spClosings)
  (DV:Def P w K mg base 4 "piece_at" p25 (spPieceAt c)):FnOk P w K mg base CX0 5 f fd ["text"] (spPieces c):=by
 have sc:FnScope ["text","closings","pieces","place","found"] ["text"] (ad lz):=mkS;refine F.oks sc λ{_ _ _ s _ _}H Q hr h=>?_;obtain⟨t,rfl,hl,ha,q⟩:=h;refine ap (xbc (xst (i:=1) sc.nd (xcd DU hr (xac (xv 0) xa0)))
  (xbc (xst (i:=2) sc.nd (xlst xa0))
  (xbc (xst (i:=3) sc.nd xint)
  (xbc (cU PassesOwn.never (ay dL (xv 3) (xcB aw T.u10 PySem.boot_len (xac (xv 0) xa0)) (al _))
  (xbc (xst (i:=4) sc.nd (xcd DV hr (xac (xv 0) (xac (xv 3) (xac (xv 1) xa0)))))
  (xbc (aZ (xmA (xv 2) (xac (xix aB (xv 4) xint (λ_ _=>rfl)) xa0)))
  (xb1 (xst (i:=3) sc.nd (xix aB (xv 4) xint (λ_ _=>rfl)))))))
  (xb1 (xret (xv 2))))))) ?_
 have hs:=sizeLine_eq;rw[wv];refine⟨_,rfl,t,rfl,hl,λcl H1 s1 hcl e1=>?_⟩
 left
 refine⟨bg0,λl hl0=>?_⟩;have hl00:H l=none:=s1.free hl0;have s2:=s1.trans (ac hl0 (.lst []));have e2:upd H1 l (.lst []) l=some (.lst []):=aa;have ec2:=ac hl0 (.lst []) _ _ e1;have hne:cl≠l:=(nq hl0 e1)
 left
 generalize upd H1 l (.lst [])=H2 at s2 e2 ec2 ⊢;show tSeq (tWhile _ _) _ _ [some (vS t),some (.ref cl),some (.ref l),some (.int ((0:Nat):Int)),none] H2;refine bm (λσ' H'=>∃us x4,σ'=[some (vS t),some (.ref cl),some (.ref l),some (.int (t.length:Nat)),x4]/\Same H H'/\H' l=some (.lst us)/\NewQ H [l] H' λG=>PcsAt c G us (aC t)) (λN hN=>?_) ?_
 ·refine cA (λm σ' H'=>∃(p:Nat) (us:List V) (dn:List Pc) (x4:Option V),σ'=[some (vS t),some (.ref cl),some (.ref l),some (.int (p:Nat)),x4]/\Same H H'/\H' cl=some (.lst ((clGo 0 t).map V.int))/\H' l=some (.lst us)/\(NewQ H [l] H' λG=>PcsAt c G us dn)/\p<=t.length/\m=t.length - p/\Al t p/\us.length<=p/\dn++aC (t.drop p)=aC t) t.length ⟨0,[],[],none,rfl,s2,ec2,e2,NewQ.triv trivial,l10 _,rfl, .zero t,l10 _,rfl⟩ ?_;rintro m σ' H3 ⟨p,us,dn,x4,rfl,s3,ec3,e3,hn3,hp,rfl,hA,hul,hd⟩;refine⟨decide (p < t.length),λR k=>⟨_,rfl,_,rfl,_,rfl,bigS nofun,_,_,rfl,rfl,_,rfl,?_⟩,λhc H4 s4=>?_,λhc H4 s4=>?_⟩
  ·rw[aA,show decide ((p:Int) < ((t.length:Nat):Int))=decide (p < t.length) by rw[decide_eq_decide];omega];exact k _ (Same.refl _)
  ·have hpl:p < t.length:=of_decide_eq_true hc;obtain⟨pc,r,hst⟩:=ez (s:=t.drop p) (λz=>by have:=congrArg List.length z;rw[l13,l25] at this;omega);obtain⟨p',hp',hlt,hle,hdr,hA'⟩:=hA.step hpl hst;have s34:=s3.trans s4;have e4:=s4 _ _ e3;refine⟨_,rfl,_,rfl,_,rfl,t,p,cl,pc,r,rfl,s4 _ _ ec3,hpl,hl,ha,hA,hst,λtp v H5 s5 e5 hv=>?_⟩;rw[<- hp'] at e5
   left
   have e5l:=s5 _ _ e4;refine⟨_,rfl, .inl ⟨rfl,_,SqL.of e5l⟩,?_⟩;refine tI (ev_v rfl) ev_c (SqT.of e5) (am (j:=0) rfl) _ ⟨l,_,_,rfl,rfl,e5l,by rw[hs];omega,?_⟩;have htl:tp≠l:=(nq e5l e5);refine tI (ev_v rfl) ev_c (SqT.of ((ag htl).trans e5)) (am (j:=1) rfl) _ ?_
   left
   refine⟨t.length - p',by omega,p',us++[v],dn++[pc],_,rfl,af hl00 (s34.trans s5),(ag hne).trans (s5 _ _ (s4 _ _ ec3)),aa,?_,hle,rfl,hA',by rw[l6,l4,l25];omega,?_⟩
   ·refine NewQ.upd ?_ l8;refine NewQ.join ((hn3.same s4).same s5) (NewQ.of (R:=λG=>PcAt c G v pc) s34 (λb hb=>by rw[l14.mp hb,e4];simp) hv) tK yl λG h1 h2=>h1.snoc h2
   ·rw[l18,<- hd,bW hst,hdr];rfl
  ·have hpl:p=t.length:=by have:=of_decide_eq_false hc;omega
   subst hpl;rw[l45,bO,l17] at hd;subst hd;exact hN _ _ ⟨us,x4,rfl,s3.trans s4,s4 _ _ e3,hn3.same s4⟩
 ·rintro σ' H3 ⟨us,x4,rfl,s3,e3,hn3⟩;exact⟨_,rfl,q l us H3 s3 hl00 e3 (hn3.dif tK)⟩
abbrev jb:Stmt:=top 65
inductive spMerged (c:Cp)(vs:List V)(H:Hp)(Q:VK)(u3:XK):Prop
 |mk (G0:Hp)(W:List Addr)(l:Addr)(us:List V)(qs:List Qc)(_:vs=[.ref l])(_:Same G0 H)(_:∀b∈W,H b≠none)(_:H l=some (.lst us))(_:NewQ G0 W H λG=>QsAt c G us qs)(_:QOk qs)(_:lenQ qs<=100000)(_:qs.length<=100000)(_:∀r as H',Same H H'->H r=none->H' r=some (.lst (as.map V.ref))->(NewQ G0 W H' λG=>PCs c G as (mgGo [] qs))->Q (.ref r) H')
def pT (F:Fun K "merged" "merged" jb f fd)(T:TxI K mg c BT)(DD:New P w K mg base 1 "Plain" c.Plain p9 (spInit1 c.Plain "signs")):FnOk P w K mg base CX0 3 f fd ["pieces"] (spMerged c):=by
 have sc:FnScope ["pieces","parts","signs","piece"] ["pieces"] (ad jb):=mkS;refine F.oks sc λ{cdv A _ s _ _}H Q hr h=>?_;obtain⟨G0,W,l,us,qs,rfl,s0,hW,el,hin,hok,hlq,hql,q⟩:=h;have hu:(A.deeper (PyProof.Rows.envOfC "merged" (ad jb) s.heap.objs.size f cdv)).units+64 < cLine:=by
  have:=hr.un;omega
 refine ap (xbc (xst (i:=1) sc.nd (xlst xa0))
  (xbc (xst (i:=2) sc.nd (xlst xa0))
  (xbc (xfor PassesOwn.never rfl (xil (xv 0)) (xgm (i:=3) sc.nd)
  (xbc (xif (bv (xcB iH T.q11 rfl (xac (xv 3) (xac (xty (T:="str") T.g11 rfl) xa0)))) (xbc (aZ (xmA (xv 2) (xac (xv 3) xa0)))
  (xb1 uQ)) xb0)
  (xbc (xif (ay (ij hu) (xv 2) (xlst xa0) (al _)) (xbc (aZ (xmA (xv 1) (xac (xnew DD hr.mono (xac (xm plainAttrs_str slot_str_join type_str_join bz xstr (xac (xv 2) xa0)) xa0)) xa0)))
  (xb1 (xst (i:=2) sc.nd (xlst xa0)))) xb0)
  (xb1 (aZ (xmA (xv 1) (xac (xv 3) xa0)))))))
  (xbc (xif (ay (ij hu) (xv 2) (xlst xa0) (al _)) (xb1 (aZ (xmA (xv 1) (xac (xnew DD hr.mono (xac (xm plainAttrs_str slot_str_join type_str_join bz xstr (xac (xv 2) xa0)) xa0)) xa0)))) xb0)
  (xb1 (xret (xv 1))))))) ?_
 have hs:=sizeLine_eq;have hulen:us.length=qs.length:=let ⟨_,_,_,_,e⟩:=hin;e.len
 rw[xR];refine⟨bg0,λpr hpr=>?_⟩;have s1:=ac hpr (.lst []);have e1:upd H pr (.lst []) pr=some (.lst []):=aa
 left
 generalize upd H pr (.lst [])=H1 at s1 e1 ⊢;refine⟨bg0,λsg0 hsg0=>?_⟩;have s2:=s1.trans (ac hsg0 (.lst []));have e2p:=ac hsg0 (.lst []) _ _ e1;have e2s:upd H1 sg0 (.lst []) sg0=some (.lst []):=aa;have hsg00:H sg0=none:=s1.free hsg0;have hne0:sg0≠pr:=(nq e1 hsg0)
 left
 generalize upd H1 sg0 (.lst [])=H2 at s2 e2p e2s ⊢;refine⟨_,rfl,l,rfl,⟨_,SqL.of (s2 _ _ el)⟩,?_⟩;have mk:∀{H3:Hp} {sg:Addr} {sgs:List (List Nat)} {as:List Addr} {dn:List PC},Same H H3->H3 pr=some (.lst (as.map V.ref))->H3 sg=some (.lst (sgs.map vS))->sg≠pr->Asc sgs.flatten->sgs.flatten.length<=100000->sgs≠[]->as.length<=300000->(NewQ G0 (pr::sg::W) H3 λG=>PCs c G as dn) →
   ∀{y dx:Addr},H3 y=none->H3 dx=none->dx≠y->∀H4,H4=upd (upd (upd H3 dx (.own y)) y (.ins c.Plain dx [])) y (.ins c.Plain dx [("signs",vS sgs.flatten)]) →
   Same H (upd H4 pr (.lst (as.map V.ref++[.ref y])))/\H4 pr=some (.lst (as.map V.ref))/\(upd H4 pr (.lst (as.map V.ref++[.ref y]))) pr=some (.lst ((as++[y]).map V.ref))/\(NewQ G0 (pr::sg::W) (upd H4 pr (.lst (as.map V.ref++[.ref y]))) λG=>PCs c G (as++[y]) (dn++bn sgs)):=by
  intro H3 sg sgs as dn s3 ep es hne hasc hfl hne2 hal hn y dx hy hdx hyd H4 e4;obtain⟨m1,m2⟩:=vh (H:=H3) (C:=c.Plain) (o := .ins c.Plain dx [("signs",vS sgs.flatten)]) (Same.refl H3) hy hdx;rw[<- e4] at m1 m2;refine⟨af hpr (s3.trans m1),m1 _ _ ep,by rw[aa,l15];rfl,?_⟩;refine NewQ.upd ?_ l8;refine NewQ.join (hn.same m1) (NewQ.of (H3:=H3) (R:=λG=>PCAt c G y (.one (.plain (S sgs.flatten)))) (s0.trans s3) (λb hb=>?_) ⟨gy hasc hfl,dx,m2⟩) mJ wV λG h1 h2=>?_
  ·rcases l9.mp hb with z |hb
   ·rw[z,ep];simp
   ·rcases l9.mp hb with z |hb
    ·rw[z,es];simp
    ·intro z;exact hW b hb (s3.free z)
  ·have:bn sgs=[.one (.plain (S sgs.flatten))]:=by
    unfold bn;rw[if_neg (by simp[hne2])]
   rw[this];exact h1.snoc h2
 refine cw (xs:=us) (λi σ H'=>∃(as:List Addr) (dn:List PC) (sg:Addr) (sgs:List (List Nat)) (x3:Option V),σ=[some (.ref l),some (.ref pr),some (.ref sg),x3]/\Same H H'/\H' pr=some (.lst (as.map V.ref))/\H' sg=some (.lst (sgs.map vS))/\H sg=none/\sg≠pr/\(NewQ G0 (pr::sg::W) H' λG=>PCs c G as dn)/\as.length<=2 * i/\sgs.length<=i/\Asc sgs.flatten/\sgs.flatten.length+lenQ (qs.drop i)<=100000/\dn++mgGo sgs (qs.drop i)=mgGo [] qs)
  ⟨[],[],sg0,[],none,rfl,s2,e2p,e2s,hsg00,hne0,NewQ.triv trivial,l10 _,l10 _,(λ_ z=>nomatch z),by show 0+lenQ qs<=_;omega,rfl⟩ ?_ ?_ ?_
 ·rintro i σ H3 _ ⟨as,dn,sg,sgs,x3,_,s3,_⟩;exact SqL.of (s3 _ _ el)
 ·rintro i x σ H3 hx ⟨as,dn,sg,sgs,x3,rfl,s3,ep,es,hsg,hne,hn,hal,hsl,hasc,hfl,hrun⟩;obtain⟨hil,_⟩:=List.getElem?_eq_some_iff.mp hx;obtain⟨qc,hqc⟩:∃qc,qs[i]? = some qc:=⟨_,List.getElem?_eq_getElem nofun⟩;have hqi:=(List.getElem?_eq_some_iff.mp hqc);have hin3:NewQ G0 (pr::sg::W) H3 λG=>QAt c G x qc:=(((hin.wide hsg).wide hpr).same s3).map λG h=>by
   obtain⟨q',h1,h2⟩:=h.get hx;rw[hqc] at h1;cases h1;exact h2
  have hqd:qs.drop i=qc::qs.drop (i+1):=by rw[l28 hqi.1,hqi.2]
  have hqd2:=pJ hqc;rw[hqd] at hrun
  left
  cases qc with
  |txt y=>
   obtain⟨_,_,_,_,hxy⟩:=hin3;have hxy:x=vS y:=hxy;subst hxy;have hy:=hok y (l16 hqc);have hqd2:lenQ (qs.drop i)=(y.length+0)+lenQ (qs.drop (i+1)):=hqd2;refine bU (λR k=>⟨_,rfl,_,_,_,_,rfl, .str _,iI _ _,_,rfl,k _ (Same.refl _)⟩) λH4 s4=>?_;have es4:=s4 _ _ es;refine⟨_,rfl, .inl ⟨rfl,_,SqL.of es4⟩,_,rfl,sg,_,_,rfl,rfl,es4,by rw[l0,hs];omega,?_⟩;refine⟨as,dn,sg,sgs++[y],_,rfl,af hsg (s3.trans s4),(ag (Ne.symm hne)).trans (s4 _ _ ep),by rw[aa,l15];rfl,hsg,hne,((hn.same s4).upd (l7 _ l8)),by omega,by rw[l6,l4,l25];omega,?_,?_,hrun⟩
   ·rw[List.flatten_append];exact k5 hasc (by show Asc (y++[]);rw[l17];exact hy.1)
   ·rw[List.flatten_append,l6];show _+(y++[]).length+_<=_;rw[l17];omega
  |part p=>
   obtain⟨a,hxa⟩:∃a,x = .ref a:=let ⟨_,_,_,_,h⟩:=hin3;⟨h.choose,h.choose_spec.1⟩
   subst hxa;have hin3:NewQ G0 (pr::sg::W) H3 λG=>PCAt c G a p:=hin3.map λG h=>by
    obtain⟨a',e,h⟩:=h;cases e;exact h
   have hqd2:lenQ (qs.drop i)=0+lenQ (qs.drop (i+1)):=hqd2;have hpa:PCAt c H3 a p:=let ⟨_,sG,_,_,h⟩:=hin3;h.same sG
   obtain⟨ty,hty,hkt⟩:=T.noStr hpa;refine aU (λR k=>⟨_,rfl,_,_,_,_,rfl,hty,hkt,_,rfl,k _ (Same.refl _)⟩) λH4 s4=>?_;have s34:=s3.trans s4;refine bm (λσ' H'=>∃(as':List Addr) (dn':List PC) (sg':Addr),σ'=[some (.ref l),some (.ref pr),some (.ref sg'),some (.ref a)]/\Same H H'/\H' pr=some (.lst (as'.map V.ref))/\H' sg'=some (.lst [])/\H sg'=none/\sg'≠pr/\(NewQ G0 (pr::sg'::W) H' λG=>PCs c G as' dn')/\as'.length<=2 * i+1/\dn'++p::mgGo [] (qs.drop (i+1))=mgGo [] qs) (λN hN=>?_) ?_
   ·have tN:=wL (K:=K) (σ:=[some (.ref l),some (.ref pr),some (.ref sg),some (.ref a)]) (ta:=tVar 2) (ev_v rfl) (SqL.of (s4 _ _ es));refine s_if _ tN (λH5 s5 hc=>?_) (λH5 s5 hc=>?_)
    ·have hz:sgs≠[]:=λz=>by rw[z] at hc;cases hc
     have s35:=s34.trans s5;have ep5:=s5 _ _ (s4 _ _ ep);have es5:=s5 _ _ (s4 _ _ es);refine⟨_,rfl, .inl ⟨rfl,_,SqL.of ep5⟩,rfl,_,rfl,S [],sg,sgs.map S,rfl,rfl,SqL.of (by rw[es5,l19];rfl),mK sgs nofun,?_⟩;rw[bD,glue_flat];intro y dx hy hdx hyd;obtain⟨k1,k2,k3,k4⟩:=mk s35 ep5 es5 hne hasc nofun hz nofun ((hn.same s4).same s5) hy hdx hyd _ rfl;refine⟨y,dx,_,rfl,aa,rfl,pr,_,_,rfl,rfl,k2,by rw[l0,hs];omega,?_⟩;refine⟨bg0,λsg2 hsg2=>?_⟩
     left
     have hsgH:H sg2=none:=k1.free hsg2;have hne3:sg2≠pr:=(nq k3 hsg2);refine hN _ _ ⟨as++[y],dn++bn sgs,sg2,rfl,k1.trans (ac hsg2 _),ac hsg2 _ _ _ k3,aa,hsgH,hne3,?_,by rw[l6,l4,l25];omega,by rw[l18];exact hrun⟩;exact (((k4.less (W':=pr::W) λb hb=>by
      rcases l9.mp hb with z |z
      ·rw[z];exact l8
      ·exact l7 _ (l7 _ z)).wide hsg2).less λb hb=>by
      rcases l9.mp hb with z |z
      ·rw[z];exact l7 _ l8
      ·rcases l9.mp z with z |z
       ·rw[z];exact l8
       ·exact l7 _ (l7 _ z)).same (ac hsg2 _)
    ·have hz:sgs=[]:=by
      cases sgs with
      |nil=>rfl
      |cons _ _=>cases hc
     subst hz;exact hN _ _ ⟨as,dn,sg,rfl,s34.trans s5,s5 _ _ (s4 _ _ ep),s5 _ _ (s4 _ _ es),hsg,hne,(hn.same s4).same s5,by omega,hrun⟩
   ·rintro σ' H5 ⟨as',dn',sg',rfl,s5,ep5,es5,hsg',hne',hn5,hal',hrun'⟩;refine⟨_,rfl, .inl ⟨rfl,_,SqL.of ep5⟩,_,rfl,pr,_,_,rfl,rfl,ep5,by rw[l0,hs];omega,?_⟩;refine⟨as'++[a],dn'++[p],sg',[],_,rfl,af hpr s5,by rw[aa,l15];rfl,(ag hne').trans es5,hsg',hne',?_,by rw[l6,l4,l25];omega,l10 _,(λ_ z=>nomatch z),by show 0+_<=_;omega,by rw[l18];exact hrun'⟩;refine NewQ.upd ?_ l8;have hin5:NewQ G0 (pr::sg'::W) H5 λG=>PCAt c G a p:=(((hin.wide hsg').wide hpr).same s5).map λG h=>by
     obtain⟨q',h1,h2⟩:=h.get hx;rw[hqc] at h1;cases h1;obtain⟨a',e,h2⟩:=h2;cases e;exact h2
    exact NewQ.join hn5 hin5 mJ wV λG h1 h2=>h1.snoc h2
 ·rintro σ H3 ⟨as,dn,sg,sgs,x3,rfl,s3,ep,es,hsg,hne,hn,hal,hsl,hasc,hfl,hrun⟩;rw[hulen,l45] at hrun hfl;have fin:∀{as':List Addr} {H5:Hp},Same H H5->H5 pr=some (.lst (as'.map V.ref))->(NewQ G0 (pr::sg::W) H5 λG=>PCs c G as' (mgGo [] qs))->Q (.ref pr) H5:=λs5 ep5 hn5=>q pr _ _ s5 hpr ep5 (hn5.less λb hb=>l7 _ (l7 _ hb));have tN:=wL (K:=K) (σ:=[some (.ref l),some (.ref pr),some (.ref sg),x3]) (ta:=tVar 2) (ev_v rfl) (SqL.of es);refine s_if _ tN (λH5 s5 hc=>?_) (λH5 s5 hc=>?_)
  ·have hz:sgs≠[]:=λz=>by rw[z] at hc;cases hc
   have s35:=s3.trans s5;have ep5:=s5 _ _ ep;have es5:=s5 _ _ es;refine⟨_,rfl, .inl ⟨rfl,_,SqL.of ep5⟩,rfl,_,rfl,S [],sg,sgs.map S,rfl,rfl,SqL.of (by rw[es5,l19];rfl),mK sgs nofun,?_⟩;rw[bD,glue_flat];intro y dx hy hdx hyd;obtain⟨k1,k2,k3,k4⟩:=mk s35 ep5 es5 hne hasc nofun hz nofun (hn.same s5) hy hdx hyd _ rfl;refine⟨y,dx,_,rfl,aa,rfl,pr,_,_,rfl,rfl,k2,by rw[l0,hs];omega,?_⟩;refine⟨_,rfl,fin k1 k3 (k4.map λG h=>?_)⟩;rw[<- hrun];exact h
  ·have hz:sgs=[]:=by
    cases sgs with
    |nil=>rfl
    |cons _ _=>cases hc
   subst hz;refine⟨_,rfl,fin (s3.trans s5) (s5 _ _ ep) ((hn.same s5).map λG h=>?_)⟩;rw[<- hrun];show PCs c G as (dn++[]);rw[l17];exact h
abbrev fO:Stmt:=top 64
inductive spStrongs (c:Cp)(vs:List V)(H:Hp)(Q:VK)(u3:XK):Prop
 |mk (G0:Hp)(l:Addr)(us:List V)(ps:List Pc)(_:vs=[.ref l])(_:Same G0 H)(_:H l=some (.lst us))(_:PcsAt c (dif G0 H) us ps)(_:PcOk ps)(_:ps.length<=100000)(_:∀r ws H',Same H H'->H r=none->H' r=some (.lst ws)->QsAt c (dif G0 H') ws (wsGo none ps)->Q (.ref r) H')
def nM (F:Fun K "with_strong" "with_strong" fO f fd)(T:TxI K mg c BT)(DW:New P w K mg base 1 "Strong" c.Strong p10 (spInitS c.Strong))(DB:Def P w K mg base 3 "merged" ["pieces"] (spMerged c)):FnOk P w K mg base CX0 4 f fd ["pieces"] (spStrongs c):=by
 have sc:FnScope ["pieces","outer","inner","begun","piece"] ["pieces"] (ad fO):=mkS;refine F.oks sc λ{cdv A _ s _ _}H Q hr h=>?_;obtain⟨G0,l,us,ps,rfl,s0,el,hin,hok,hpl,q⟩:=h;have hu:(A.deeper (PyProof.Rows.envOfC "with_strong" (ad fO) s.heap.objs.size f cdv)).units+64 < cLine:=by
  have:=hr.un;omega
 refine ap (xbc (xst (i:=1) sc.nd (xlst xa0))
  (xbc (xst (i:=2) sc.nd (xlst xa0))
  (xbc (xst (i:=3) sc.nd xbl)
  (xbc (xfor PassesOwn.never rfl (xil (xv 0)) (xgm (i:=4) sc.nd)
  (xb1 (xif (xand (ay fg (xv 4) xnon (al _)) (gW (bv (xv 3)))).xt (xb1 (aZ (xmA (xv 2) (xac (xv 4) xa0)))) (xb1 (xif (ay fg (xv 4) xnon (al _)) (xb1 (aZ (xmA (xv 1) (xac (xv 4) xa0)))) (xb1 (xif (ge (bv (xv 3))) (xb1 (xst (i:=3) sc.nd xbl)) (xbc (aZ (xmA (xv 1) (xac (xifE (ay (wK hu) (xv 2) (xlst xa0) (al _)) xstr (xnew DW hr.mono (xac (xcd DB hr (xac (xv 2) xa0)) xa0))) xa0)))
  (xbc (xst (i:=2) sc.nd (xlst xa0))
  (xb1 (xst (i:=3) sc.nd xbl)))))))))))
  (xbc (xif (bv (xv 3)) (xb1 (aZ (xmA (xv 1) (xac xstr xa0)))) xb0)
  (xb1 (xret (xop bM (xv 1) (xv 2))))))))) ?_
 have hs:=sizeLine_eq;have hulen:us.length=ps.length:=hin.len;rw[wv];refine⟨bg0,λou hou=>?_⟩;have s1:=ac hou (.lst []);have e1:upd H ou (.lst []) ou=some (.lst []):=aa
 left
 generalize upd H ou (.lst [])=H1 at s1 e1 ⊢;refine⟨bg0,λin0 hin0=>?_⟩;have s2:=s1.trans (ac hin0 (.lst []));have e2o:=ac hin0 (.lst []) _ _ e1;have e2i:upd H1 in0 (.lst []) in0=some (.lst []):=aa;have hin00:H in0=none:=s1.free hin0;have hne0:in0≠ou:=(nq e1 hin0)
 left
 generalize upd H1 in0 (.lst [])=H2 at s2 e2o e2i ⊢;refine⟨_,rfl,l,rfl,⟨_,SqL.of (s2 _ _ el)⟩,?_⟩;refine cw (xs:=us) (λi σ H'=>∃(ws ys:List V) (dn iq:List Qc) (nn:Addr) (bg:Bool) (x4:Option V),σ=[some (.ref l),some (.ref ou),some (.ref nn),some (.bl bg),x4]/\Same H H'/\H' ou=some (.lst ws)/\H' nn=some (.lst ys)/\H nn=none/\nn≠ou/\(NewQ G0 [ou,nn] H' λG=>QsAt c G ws dn/\QsAt c G ys iq)/\ws.length<=i/\ys.length<=i/\lenQ iq<=i/\QOk iq/\OneQ iq/\(bg=false->iq=[])/\dn++wsGo (if bg then some iq else none) (ps.drop i)=wsGo none ps)
  ⟨[],[],[],[],in0,false,none,rfl,s2,e2o,e2i,hin00,hne0,NewQ.triv ⟨trivial,trivial⟩,l10 _,l10 _,l10 _,QOk.nil,(λ_ z=>nomatch z),λ_=>rfl,rfl⟩ ?_ ?_ ?_
 ·rintro i σ H3 _ ⟨ws,ys,dn,iq,nn,bg,x4,_,s3,_⟩;exact SqL.of (s3 _ _ el)
 ·rintro i x σ H3 hx ⟨ws,ys,dn,iq,nn,bg,x4,rfl,s3,eo,en,hnn,hne,hn,hwl,hyl,hiq,hqo,hone,hbg,hrun⟩;obtain⟨hil,_⟩:=List.getElem?_eq_some_iff.mp hx;obtain⟨pc,hpc⟩:∃pc,ps[i]? = some pc:=⟨_,List.getElem?_eq_getElem nofun⟩;have hpi:=(List.getElem?_eq_some_iff.mp hpc);have hpa:PcAt c (dif G0 H) x pc:=by
   obtain⟨p',h1,h2⟩:=hin.get hx;rw[hpc] at h1;cases h1;exact h2
  have hpd:ps.drop i=pc::ps.drop (i+1):=by rw[l28 hpi.1,hpi.2]
  rw[hpd] at hrun
  left
  by_cases hstar:pc = .star
  ·subst hstar;have hxn:x = .non:=hpa;subst hxn;have tN:∀H',Tells (tTest (tOp R_op_notN (tVar 4) (tC .non))) [some (.ref l),some (.ref ou),some (.ref nn),some (.bl bg),some V.non] H' false:=λH' R k=>⟨_,rfl,rfl,_,rfl,by rw[show (!decide (V.non=V.non))=false from rfl];exact k H' (Same.refl _)⟩;refine s_if false (dk false false (tN H3) λz=>Bool.noConfusion z) (λ_ _ z=>Bool.noConfusion z) λH4 s4 _=>?_;refine s_if false (tN H4) (λ_ _ z=>Bool.noConfusion z) λH5 s5 _=>?_;have s35:=(s3.trans s4).trans s5;have eo5:=s5 _ _ (s4 _ _ eo);have en5:=s5 _ _ (s4 _ _ en);have hn5:=(hn.same s4).same s5;cases bg with
   |false=>
    have hz:=hbg rfl;subst hz;have hyz:ys=[]:=by
     obtain⟨_,_,_,_,_,h⟩:=hn;exact l74 h.len
    subst hyz;refine s_if true (j6 false (t_bv (ev_v rfl))) (λH6 s6 _=>?_) λ_ _ z=>Bool.noConfusion z;exact⟨ws,[],dn,[],nn,true,_,rfl,s35.trans s6,s6 _ _ eo5,s6 _ _ en5,hnn,hne,hn5.same s6,by omega,l10 _,l10 _,QOk.nil,hone,λz=>Bool.noConfusion z,hrun⟩
   |true=>
    refine s_if false (j6 true (t_bv (ev_v rfl))) (λ_ _ z=>Bool.noConfusion z) λH6 s6 _=>?_;have s36:=s35.trans s6;have eo6:=s6 _ _ eo5;have en6:=s6 _ _ en5;have hn6:=hn5.same s6;have hylen:ys.length=iq.length:=let ⟨_,_,_,_,_,h⟩:=hn;h.len
    have rest:∀{H7:Hp} {v:V},Same H H7->H7 ou=some (.lst ws)->H7 nn=some (.lst ys)->(NewQ G0 [ou,nn] H7 λG=>QsAt c G ws dn)->(NewQ G0 [ou,nn] H7 λG=>QAt c G v (bc iq))->∀{in2:Addr},upd H7 ou (.lst (ws++[v])) in2=none →
      ∃(ws' ys':List V) (dn' iq':List Qc) (nn':Addr) (bg':Bool) (x4':Option V),[some (V.ref l),some (V.ref ou),some (V.ref in2),some (V.bl false),some V.non]=[some (V.ref l),some (V.ref ou),some (V.ref nn'),some (V.bl bg'),x4']/\Same H (upd (upd H7 ou (.lst (ws++[v]))) in2 (.lst []))/\upd (upd H7 ou (.lst (ws++[v]))) in2 (.lst []) ou=some (.lst ws')/\upd (upd H7 ou (.lst (ws++[v]))) in2 (.lst []) nn'=some (.lst ys')/\H nn'=none/\nn'≠ou/\(NewQ G0 [ou,nn'] (upd (upd H7 ou (.lst (ws++[v]))) in2 (.lst [])) λG=>QsAt c G ws' dn'/\QsAt c G ys' iq')/\ws'.length<=i+1/\ys'.length<=i+1/\lenQ iq'<=i+1/\QOk iq'/\OneQ iq'/\(bg'=false->iq'=[])/\dn'++wsGo (if bg' then some iq' else none) (ps.drop (i+1))=wsGo none ps:=by
     intro H7 v s7 eo7 en7 hd7 hv7 in2 hin2;have s8:Same H (upd H7 ou (.lst (ws++[v]))):=af hou s7;have e8:upd H7 ou (.lst (ws++[v])) ou=some (.lst (ws++[v])):=aa;have hne2:in2≠ou:=(nq e8 hin2);refine⟨ws++[v],[],dn++[bc iq],[],in2,false,_,rfl,s8.trans (ac hin2 _),ac hin2 _ _ _ e8,aa,s8.free hin2,hne2,?_,by rw[l6,l4,l25];omega,l10 _,l10 _,QOk.nil,(λ_ z=>nomatch z),λ_=>rfl,by rw[l18];exact hrun⟩;have j:NewQ G0 [ou,nn] (upd H7 ou (.lst (ws++[v]))) λG=>QsAt c G (ws++[v]) (dn++[bc iq])/\QsAt c G [] []:=NewQ.upd (NewQ.join hd7 hv7 ym mo_Q λG h1 h2=>⟨h1.snoc h2,trivial⟩) l8;exact (((j.less (W':=[ou]) λb hb=>by rw[l14.mp hb];exact l8).wide hin2).less λb hb=>by
      rcases l9.mp hb with z |z
      ·rw[z];exact l7 _ l8
      ·rw[l14.mp z];exact l8).same (ac hin2 _)
    refine⟨_,rfl, .inl ⟨rfl,_,SqL.of eo6⟩,?_⟩;refine ye (K:=K) (ta:=tVar 2) (ev_v rfl) (SqL.of en6) _ λH7 s7=>?_;have s37:=s36.trans s7;have eo7:=s7 _ _ eo6;have en7:=s7 _ _ en6;have hn7:=hn6.same s7;by_cases hyz:ys=[]
    ·subst hyz;have hiz:iq=[]:=l74 hylen.symm;refine ite2 (λ_=>?_) (λz=>absurd rfl z);refine⟨ou,_,_,rfl,rfl,eo7,by rw[hs];omega,bg0,λin2 hin2=>?_⟩
     left
     refine rest s37 eo7 en7 (hn7.map λG h=>h.1) (NewQ.triv ?_) hin2;subst hiz;rfl
    ·refine ite2 (λz=>absurd (List.isEmpty_iff.mp z) hyz) (λ_=>?_);refine⟨_,rfl,G0,[ou,nn],nn,ys,iq,rfl,s0.trans s37,λb hb=>?_,en7,hn7.map λG h=>h.2,hqo,by omega,by omega,λr as H8 s8 hr0 er hPC=>?_⟩
     ·rcases l9.mp hb with z |z
      ·rw[z,eo7];simp
      ·rw[l14.mp z,en7];simp
     intro y dx hy hdx hyd;have s38:=s37.trans s8;have hry:r≠y:=(nq hy er);have hrd:r≠dx:=(nq hdx er);refine⟨y,dx,r,_,rfl,aa,by rw[ag hry,ag hrd];exact er,λp hp=>⟨rfl,?_⟩⟩;have hpy:p≠y:=(nq aa hp);have s9:Same H8 (upd (upd H8 dx (.own y)) y (.ins c.Strong dx [])):=af hy (ac hdx _);have hp8:H8 p=none:=s9.free hp;generalize hH9:upd (upd (upd (upd H8 dx (.own y)) y (.ins c.Strong dx [])) p (.lst (as.map V.ref))) y (.ins c.Strong dx [("parts", .ref p)])=H9;have s89:Same H8 H9:=by rw[<- hH9];exact af hy (s9.trans (ac hp _))
     have e9y:H9 y=some (.ins c.Strong dx [("parts", .ref p)]):=by rw[<- hH9];exact aa
     have e9p:H9 p=some (.lst (as.map V.ref)):=by rw[<- hH9,ag hpy];exact aa
     refine⟨ou,_,_,rfl,rfl,s89 _ _ (s8 _ _ eo7),by rw[hs];omega,bg0,λin2 hin2=>?_⟩
     left
     refine rest (s38.trans s89) (s89 _ _ (s8 _ _ eo7)) (s89 _ _ (s8 _ _ en7)) (((hn7.same s8).same s89).map λG h=>h.1) ?_ hin2;refine NewQ.join (hPC.same s89) (NewQ.of (H3:=H8) (R:=λG=>G y=some (.ins c.Strong dx [("parts", .ref p)])/\G p=some (.lst (as.map V.ref))) (s0.trans s38) (λb hb z=>?_) ⟨by rw[ar hy];exact e9y,by rw[ar hp8];exact e9p⟩) mJ (λG G' s h=>⟨s _ _ h.1,s _ _ h.2⟩) λG h1 h2=>?_
     ·rcases l9.mp hb with z2 |z2
      ·rw[z2,s8 _ _ eo7] at z;cases z
      ·rw[l14.mp z2,s8 _ _ en7] at z;cases z
     ·have hiz:iq≠[]:=λz=>hyz (l74 (by rw[hylen,z];rfl));have:bc iq = .part (.strong (ones (mgGo [] iq))):=by
       unfold bc;rw[if_neg (by simp[hiz])]
      rw[this];exact⟨y,rfl,dx,p,as,h2.1,h2.2,h1.ones (lr iq [] hone)⟩
  ·have hxn:x ≠ .non:=by
    intro z;subst z;cases pc with
    |star=>exact hstar rfl
    |sign _=>exact nomatch hpa
    |code _=>obtain⟨_,e,_⟩:=hpa;exact nomatch e
    |note _=>obtain⟨_,e,_⟩:=hpa;exact nomatch e
    |link _ _=>obtain⟨_,e,_⟩:=hpa;exact nomatch e
   have tN:∀H',Tells (tTest (tOp R_op_notN (tVar 4) (tC .non))) [some (.ref l),some (.ref ou),some (.ref nn),some (.bl bg),some x] H' true:=λH' R k=>⟨_,rfl,rfl,_,rfl,by rw[decide_eq_false hxn];exact k H' (Same.refl _)⟩;have hq3 : ∀ {H' : Hp}, Same H H' -> NewQ G0 [ou, nn] H' fun G => QAt c G x (toQ pc) := fun s' => (NewQ.old (H3 := H) (R := fun G => PcAt c G x pc) s' s0 (λb hb=>by
    rcases l9.mp hb with z |z
    ·rw[z];exact hou
    ·rw[l14.mp z];exact hnn) hpa).map λG h=>h.toQ hstar
   cases bg with
   |true=>
    refine s_if true (dk true true (tN H3) λ_ H4 s4=>t_bv (ev_v rfl)) (λH4 s4 _=>?_) λ_ _ z=>Bool.noConfusion z;have en4:=s4 _ _ en;have s34:=s3.trans s4;refine⟨_,rfl, .inl ⟨rfl,_,SqL.of en4⟩,_,rfl,nn,_,_,rfl,rfl,en4,by rw[hs];omega,?_⟩;have hrun:dn++wsGo (some iq) (pc::ps.drop (i+1))=wsGo none ps:=hrun;rw[gB hstar] at hrun;refine⟨ws,ys++[x],dn,iq++[toQ pc],nn,true,_,rfl,af hnn s34,(ag (Ne.symm hne)).trans (s4 _ _ eo),aa,hnn,hne,?_,by omega,by rw[l6,l4,l25];omega,?_,?_,hone.snoc pc,λz=>Bool.noConfusion z,hrun⟩
    ·refine NewQ.upd ?_ (l7 _ l8);exact NewQ.join (hn.same s4) (hq3 s34) (λG G' s h=>⟨h.1.same s,h.2.same s⟩) mo_Q λG h1 h2=>⟨h1.1,h1.2.snoc h2⟩
    ·have:=iY pc;rw[c9];omega
    ·exact hqo.app (QOk.cons (λl z=>pI (λy e=>by subst e;exact hok y (l16 hpc)) z) QOk.nil)
   |false=>
    refine s_if false (dk true false (tN H3) λ_ H4 s4=>t_bv (ev_v rfl)) (λ_ _ z=>Bool.noConfusion z) λH4 s4 _=>?_;refine s_if true (tN H4) (λH5 s5 _=>?_) λ_ _ z=>Bool.noConfusion z;have s45:=s4.trans s5;have eo5:=s45 _ _ eo;have s35:=s3.trans s45;refine⟨_,rfl, .inl ⟨rfl,_,SqL.of eo5⟩,_,rfl,ou,_,_,rfl,rfl,eo5,by rw[hs];omega,?_⟩;have hrun:dn++wsGo none (pc::ps.drop (i+1))=wsGo none ps:=hrun;rw[gA hstar] at hrun;refine⟨ws++[x],ys,dn++[toQ pc],iq,nn,false,_,rfl,af hou s35,aa,(ag hne).trans (s45 _ _ en),hnn,hne,?_,by rw[l6,l4,l25];omega,by omega,by omega,hqo,hone,hbg,by rw[l18];exact hrun⟩;refine NewQ.upd ?_ l8;exact NewQ.join (hn.same s45) (hq3 s35) (λG G' s h=>⟨h.1.same s,h.2.same s⟩) mo_Q λG h1 h2=>⟨h1.1.snoc h2,h1.2⟩
 ·rintro σ H3 ⟨ws,ys,dn,iq,nn,bg,x4,rfl,s3,eo,en,hnn,hne,hn,hwl,hyl,hiq,hqo,hone,hbg,hrun⟩;rw[hulen,l45] at hrun;have fin:∀{ws':List V} {dn':List Qc} {H5:Hp},Same H H5->H5 ou=some (.lst ws')->H5 nn=some (.lst ys)->ws'.length<=us.length+1->(NewQ G0 [ou,nn] H5 λG=>QsAt c G ws' dn'/\QsAt c G ys iq)->dn'++iq=wsGo none ps->tOp rCat (tVar 1) (tVar 2) [some (V.ref l),some (V.ref ou),some (V.ref nn),some (V.bl bg),x4] H5 Q:=λ{ws' dn' H5} s5 eo5 en5 hl5 hn5 e5=>
   ⟨_, rfl, _, rfl, ou, nn, _, _, rfl, rfl, eo5, en5, by rw [hs]; omega, fun r hr0 => q r _ _ (s5.trans (ac hr0 _)) (s5.free hr0) aa (by
    have h:=(hn5.same (ac hr0 (.lst (ws'++ys)))).dif (λG G' s h=>⟨h.1.same s,h.2.same s⟩);rw[<- e5];exact h.1.app h.2)⟩
  cases bg with
  |true=>
   refine s_if true (t_bv (ev_v rfl)) (λH5 s5 _=>?_) λ_ _ z=>Bool.noConfusion z;have eo5:=s5 _ _ eo;refine⟨_,rfl, .inl ⟨rfl,_,SqL.of eo5⟩,ou,_,_,rfl,rfl,eo5,by rw[hs];omega,?_⟩;refine fin (af hou (s3.trans s5)) aa ((ag hne).trans (s5 _ _ en)) (by rw[l6,l4,l25];omega) (dn':=dn++[.txt [42]]) ?_ (by rw[l18];exact hrun);refine NewQ.upd ?_ l8;exact NewQ.join (hn.same s5) (NewQ.triv (R:=λG=>QAt c G (V.str "*") (.txt [42])) rfl) (λG G' s h=>⟨h.1.same s,h.2.same s⟩) mo_Q λG h1 h2=>⟨h1.1.snoc h2,h1.2⟩
  |false=>
   have hz:=hbg rfl;refine s_if false (t_bv (ev_v rfl)) (λ_ _ z=>Bool.noConfusion z) λH5 s5 _=>?_;refine fin (s3.trans s5) (s5 _ _ eo) (s5 _ _ en) nofun (hn.same s5) ?_;rw[hz];exact hrun
abbrev jc:Stmt:=top 55
inductive spPartsOf (c:Cp)(vs:List V)(H:Hp)(Q:VK)(u3:XK):Prop
 |mk (t:List Nat)(_:vs=[vS t])(_:t.length<=100000)(_:Asc t)(_:∀r as H',Same H H'->H r=none->H' r=some (.lst (as.map V.ref))->PCs c (dif H H') as (aS t)->Q (.ref r) H')
def nN (F:Fun K "parts_of" "parts_of" jc f fd)(T:TxI K mg c BT)(DX:Def P w K mg base 5 "pieces_of" ["text"] (spPieces c))(DY:Def P w K mg base 4 "with_strong" ["pieces"] (spStrongs c))(DB:Def P w K mg base 3 "merged" ["pieces"] (spMerged c)):FnOk P w K mg base CX0 6 f fd ["text"] (spPartsOf c):=by
 have sc:FnScope ["text"] ["text"] (ad jc):=mkS;refine F.oks sc λH Q hr h=>?_;obtain⟨t,rfl,hl,ha,q⟩:=h;refine ap (xb1 (xret (xcd DB hr (xac (xcd DY hr (xac (xcd DX hr (xac (xv 0) xa0)) xa0)) xa0)))) ?_;have hp:=fk _ t (l5 _);have hok:=kh _ t (l5 _) ha;have hsz:=bK (aC t) none;have h1:lenQ (wsGo none (aC t))<=(aC t).length+0:=hsz.1;have h2:(wsGo none (aC t)).length<=(aC t).length+0:=hsz.2;refine⟨_,rfl,t,rfl,hl,ha,λr1 us H1 s1 hr1 e1 k1=>?_⟩;refine⟨H,r1,us,aC t,rfl,s1,e1,k1,hok,by omega,λr2 ws H2 s2 hr2 e2 k2=>?_⟩;have s12:=s1.trans s2;refine⟨H,[],r2,ws,wsGo none (aC t),rfl,s12,(λ_ z=>nomatch z),e2,NewQ.of (H3:=H) (Same.refl _) (λ_ z=>nomatch z) k2,gz _ none hok (λ_ e=>nomatch e),by omega,by omega,λr as H3 s3 hr3 e3 k3=>?_⟩;exact q r as H3 (s12.trans s3) (s12.free hr3) e3 (k3.dif mJ)
end
end K15
namespace L2
open PySem PySem.Spec PyProof.Rows
open Builtin Builtin.Str
end L2
namespace Lm
open PySem PySem.Spec L2 Lw PyProof.Rows Builtin Builtin.Str
end Lm
namespace L2
open PySem PySem.Spec PyProof.Rows
end L2
namespace Lw
open PySem L2 Lm
end Lw
namespace L2
open PySem PySem.Spec PyProof.Rows
section
variable {X:Cx}
inductive rEqW (K:Frag)(k:Bool)(x y:V)(H:Hp)(Q:VK):Prop
 |mk (d)(_:Den K H x d)(_:Den K H y d)(_:d.depth<=64)(_:Q (.bl k) H)
def jd {K:Frag}{H:Hp}{x:V}{d:PyData}(dx:Den K H x d)(hd:d.depth<=64):SeqAt.shaped d=true:=by
 unfold SeqAt.shaped;rw[dx.lay,Bool.true_and];exact decide_eq_true hd
def wW (hu:X.A.units+64 < cLine):OpR X (compareOp .Eq) (rEqW X.K true):=by
 intro w9 s σ H x y v u Q I rx ry h;obtain⟨d,dx,dy,hd,q⟩:=h;obtain⟨as,ra⟩:=dx.reads I rx;obtain⟨bs,rb⟩:=dy.reads I ry;refine eq_dataH ra rb (jd dx hd) (jd dy hd) hu ?_;rw[iG d dx.lay];exact⟨.bl true,H,I,rfl,q⟩
def tL (hu:X.A.units+64 < cLine):OpR X (compareOp .NotEq) (rEqW X.K false):=by
 intro w9 s σ H x y v u Q I rx ry h;obtain⟨d,dx,dy,hd,q⟩:=h;obtain⟨as,ra⟩:=dx.reads I rx;obtain⟨bs,rb⟩:=dy.reads I ry;refine ne_dataH ra rb (jd dx hd) (jd dy hd) hu ?_;rw[iG d dx.lay];exact⟨.bl false,H,I,rfl,q⟩
end
end L2
namespace Lw
open PySem L2 Lm
theorem dG {n:Nat}:∀{ds:List PyData},(∀d∈ds,d.depth<=n)->PyData.depthAll ds<=n
 | [],_=>by unfold PyData.depthAll;omega
 |d::ds,h=>by
  have h1:=h d l8;have h2:=dG λx hx=>h x (l7 _ hx);unfold PyData.depthAll;omega
def aX {n:Nat}{ds:List PyData}(h:∀d∈ds,d.depth<=n):(PyData.list ds).depth<=n+1:=by
 have:=dG h;unfold PyData.depth;omega
def cr {n:Nat}{ds:List PyData}(h:∀d∈ds,d.depth<=n):(PyData.tuple ds).depth<=n+1:=by
 have:=dG h;unfold PyData.depth;omega
def cu (x:Str):(PyData.str x).depth=0:=by unfold PyData.depth;rfl
def mM (p:P1):(d1 p).depth<=1:=by
 cases p <;> (refine cr λd hd=>?_) <;> simp only[l9,List.not_mem_nil,or_false] at hd <;> (rcases hd with rfl |rfl |rfl) <;> (rw[cu];exact l5 0)
def sx (p:PC):(dP p).depth<=3:=by
 cases p with
 |one p=>exact l11 (mM p) ∅
 |strong ps=>
  refine cr λd hd=>?_;simp only[l9,List.not_mem_nil,or_false] at hd;rcases hd with rfl |rfl
  ·rw[cu];decide
  ·refine aX λd hd=>?_;obtain⟨p,_,rfl⟩:=l20.mp hd;exact mM p
def sz1:P1->Nat
 | .plain s=>s.cps.toList.length
 | .code s=>s.cps.toList.length+2
 | .link w n=>w.cps.toList.length+n.cps.toList.length+20
 | .note n=>n.cps.toList.length+20
def szC:PC->Nat
 | .one p=>sz1 p
 | .strong ps=>(ps.map sz1).sum+2
def Ok1:P1->Prop
 | .plain s=>Asc s.cps.toList/\s.cps.toList≠[]
 | .code s=>Asc s.cps.toList
 | .link w n=>Asc w.cps.toList/\Asc n.cps.toList
 | .note n=>Asc n.cps.toList
def OkC:PC->Prop
 | .one p=>Ok1 p
 | .strong ps=>∀p∈ps,Ok1 p
def R2:PC->Prop
 | .one _=>True
 | .strong ps=>ps.length<=100000
def wX {p:P1}(h:Ok1 p):1<=sz1 p:=by
 cases p with
 |plain s=>
  have:s.cps.toList≠[]:=h.2;show 1<=s.cps.toList.length;cases e:s.cps.toList with
  |nil=>exact absurd e this
  |cons _ _=>simp
 |code s=>show 1<=_+2;omega
 |link a b=>show 1<=_+20;omega
 |note s=>show 1<=_+20;omega
def vj {l:List P1}(h:∀p∈l,Ok1 p):l.length<=(l.map sz1).sum:=by
 induction l with
 |nil=>exact l5 0
 |cons p l ih=>
  have h1:=ih λq hq=>h q (l7 _ hq);have h2:=wX (h p l8);rw[l12,l24,l4];omega
def vk {l:List PC}{p:PC}(h:p∈l):szC p<=(l.map szC).sum:=by
 induction l with
 |nil=>cases h
 |cons q l ih=>
  rw[l12,l24];rcases l9.mp h with z |z
  ·rw[z];omega
  ·have:=ih z;omega
def yn {l:List PC}(h:∀p∈l,OkC p)(hs:(l.map szC).sum<=90000):∀p∈l,R2 p:=λp hp=>by
 have h1:=vk hp;have h2:=h p hp;cases p with
 |one q=>trivial
 |strong q=>
  have h3:=vj h2;have h4:szC (.strong q)=(q.map sz1).sum+2:=rfl;show q.length<=100000;omega
def wrC (r:List Nat):Option (List Nat×List Nat):=(nxtC r).map λk=>(freeC (r.take k),r.drop (k+1))
def wY {r:List Nat}:wrC (93::r)=some ([],r):=by
 unfold wrC;rw[lm];rfl
def wZ {r w t:List Nat}(h:wrC r=some (w,t)):w.length+t.length < r.length:=by
 unfold wrC at h;cases hn:nxtC r with
 |none=>rw[hn] at h;cases h
 |some k=>
  rw[hn] at h;cases h;obtain⟨u,v,e,hu⟩:=il hn;have hf:∀t:List Nat,(freeC t).length<=t.length:=λt=>by
   induction hl:t.length using Nat.strongRecOn generalizing t with
   |_ n ih=>
    match t,hl with
    | [],hl=>exact l10 _
    |x::r,hl=>
     cases ht:az (x::r) with
     |false=>
      rw[free_one' ht,l4];have:=ih r.length (by rw[<- hl,l4];omega) r rfl;rw[l4] at hl;omega
     |true=>
      obtain⟨y,r',e'⟩:=bE ht;obtain⟨_,rfl⟩:=List.cons.inj e';rw[free_take' ht,l4];have:=ih r'.length (by rw[<- hl,l4,l4];omega) r' rfl;rw[l4,l4] at hl;omega
  have:=hf (r.take k);rw[l30] at this;rw[l13];have:=congrArg List.length e;rw[l6,l4] at this;omega
def xb {r w t:List Nat}(ha:Asc r)(h:wrC r=some (w,t)):Asc w/\Asc t:=by
 unfold wrC at h;cases hn:nxtC r with
 |none=>rw[hn] at h;cases h
 |some k=>
  rw[hn] at h;cases h;exact⟨λc hc=>ha c (l70 (fN hc)),ha.drop _⟩
def wr_empty {r t:List Nat}:wrC r=some ([],t) ↔ r=93::t:=by
 constructor
 ·intro h;unfold wrC at h;cases hn:nxtC r with
  |none=>rw[hn] at h;cases h
  |some k=>
   rw[hn] at h;have h1:freeC (r.take k)=[]:=(Prod.mk.inj (Option.some.inj h)).1;have h2:r.drop (k+1)=t:=(Prod.mk.inj (Option.some.inj h)).2;obtain⟨u,v,e,hu⟩:=il hn;subst hu;rw[e,l55] at h1;cases u with
   |nil=>rw[e] at h2 ⊢;rw[<- h2];rfl
   |cons x u=>
    exfalso;cases u with
    |nil=>cases h1
    |cons y u=>
     replace h1:(if x=92/\takenC.contains y=true then y::freeC u else x::freeC (y::u))=[]:=h1;split at h1 <;> cases h1
 ·rintro rfl;exact wY
def vm (r:List Nat):bw r=match wrC r with |some (w,t)=>if w=[] then none else (match t with |40::r2=>(nameAt 41 r2).map λ(n,r3)=>(Pc.link w n,r3) |_=>none) |none=>none:=by
 unfold wrC;cases hn:nxtC r with
 |none=>unfold bw;rw[hn];rfl
 |some k=>
  cases k with
  |zero=>
   obtain⟨u,v,e,hu⟩:=il hn;show _=if freeC (r.take 0)=[] then none else _
   rw[if_pos (show freeC (r.take 0)=[] by rw[List.take_zero];rfl)];unfold bw;rw[hn]
  |succ k=>
   have hw:freeC (r.take (k+1))≠[]:=λz=>by
    have h1:wrC r=some ([],r.drop (k+1+1)):=by unfold wrC;rw[hn];show some (freeC _,_)=_;rw[z]
    have h2:=wr_empty.mp h1;rw[h2,lm] at hn;cases hn
   show _=if freeC (r.take (k+1))=[] then none else (match r.drop (k+1+1) with |40::r2=>(nameAt 41 r2).map λ(n,r3)=>(Pc.link (freeC (r.take (k+1))) n,r3) |_=>none)
   rw[if_neg hw];unfold bw;rw[hn]
   all_goals rfl
def PcG:Pc->Prop
 | .sign x=>x < 128
 | .star=>True
 | .code l=>Asc l/\l≠[]/\96∉l
 | .note n=>Asc n/\aH n=true/\bb n=n
 | .link w n=>Asc w/\w≠[]/\Asc n/\aH n=true/\bb n=n
def sPc:Pc->Nat
 | .sign _=>1
 | .star=>0
 | .code l=>l.length+2
 | .note n=>n.length+20
 | .link w n=>w.length+n.length+20
def kj {c:Nat}{l n r:List Nat}(ha:Asc l)(h:nameAt c l=some (n,r)):(Asc n/\aH n=true/\bb n=n)/\Asc r/\n.length+1+r.length=l.length:=by
 obtain⟨a,b,_,e,hn,rfl⟩:=gx h;have h1:Asc a:=λc hc=>ha c (by rw[e];exact l49 _ hc);refine⟨⟨h1.small,(ik hn).1,(ik hn).2⟩,λc hc=>ha c (by rw[e];exact l34 _ (l7 _ hc)),?_⟩;rw[e,l6,l4];unfold bb;rw[l0];omega
def pU {s r:List Nat}{p:Pc}(ha:Asc s)(h:gv s=some (p,r)):PcG p/\Asc r/\sPc p+21 * r.length<=21 * s.length/\r.length < s.length:=by
 have hlt:=iX h;cases s with
 |nil=>cases h
 |cons x t=>
  have hx:x < 128:=ha x l8;have at':Asc t:=λc hc=>ha c (l7 _ hc);replace h:(if az (x::t) then some (Pc.sign (t.headD 0),t.tail) else if x=42 then some (Pc.star,t) else if x=96 then some ((bV t).getD (.sign 96,t)) else if x=91 then some (((b6 t).or (bw t)).getD (.sign 91,t)) else some (Pc.sign x,t))=some (p,r):=h;rw[l4] at hlt ⊢;by_cases ht:az (x::t)=true
  ·rw[if_pos ht] at h;obtain⟨y,r',e⟩:=bE ht;obtain⟨rfl,rfl⟩:=List.cons.inj e;cases h;refine⟨at' y l8,λc hc=>at' c (l7 _ hc),?_,hlt⟩;show 1+21 * r'.length<=_;rw[l4];omega
  ·rw[if_neg ht] at h;clear ht;split at h
   ·cases h;exact⟨trivial,at',by show 0+_<=_;omega,hlt⟩
   ·split at h
    ·rename_i h96;cases hc:bV t with
     |none=>rw[hc] at h;cases h;exact⟨by show (96:Nat) < 128;omega,at',by show 1+_<=_;omega,hlt⟩
     |some q=>
      rw[hc] at h;cases h;unfold bV at hc;split at hc
      ·rename_i y a b he;cases hc;obtain⟨e,hn⟩:=cutAt_eq he;refine⟨⟨λc hc=>at' c (by rw[e];exact l49 _ hc),by simp,hn⟩,λc hc=>at' c (by rw[e];exact l34 _ (l7 _ hc)),?_,hlt⟩;have:=congrArg List.length e;rw[l6,l4 (a:=96)] at this;show (y::a).length+2+_<=_;omega
      ·cases hc
    ·split at h
     ·cases hm:b6 t with
      |some q=>
       rw[hm] at h;cases h;unfold b6 at hm;split at hm
       ·rename_i r2;cases hn:Lw.nameAt 93 r2 with
        |none=>rw[hn] at hm;cases hm
        |some nb=>
         rw[hn] at hm;cases hm;obtain⟨g1,g2,g3⟩:=kj (λc hc=>at' c (l7 _ hc)) hn;refine⟨g1,g2,?_,hlt⟩;show nb.1.length+20+_<=_;rw[l4];omega
       ·cases hm
      |none=>
       rw[hm] at h;cases hl:bw t with
       |none=>rw[hl] at h;cases h;exact⟨by show (91:Nat) < 128;omega,at',by show 1+_<=_;omega,hlt⟩
       |some q=>
        rw[hl] at h;cases h;rw[vm] at hl;split at hl
        ·rename_i w u hw;split at hl
         ·cases hl
         ·rename_i hwn;split at hl
          ·rename_i r2;cases hn:Lw.nameAt 41 r2 with
           |none=>rw[hn] at hl;cases hl
           |some nb=>
            rw[hn] at hl;cases hl;obtain⟨w1,w2⟩:=xb at' hw;have w3:=wZ hw;obtain⟨g1,g2,g3⟩:=kj (λc hc=>w2 c (l7 _ hc)) hn;refine⟨⟨w1,hwn,g1⟩,g2,?_,hlt⟩;show w.length+nb.1.length+20+_<=_;rw[l4] at w3;omega
          ·cases hl
        ·cases hl
     ·cases h;exact⟨hx,at',by show 1+_<=_;omega,hlt⟩
def tM (l:List Nat)(h:l.all (λc=>decide (c < 128))=true):Asc l:=λc hc=>of_decide_eq_true (l22.mp h c hc)
def Ls {α:Type}(R:Addr->α->Prop):List Addr->List α->Prop
 | [],[]=>True
 |a::as,x::xs=>R a x/\Ls R as xs
 |_,_=>False
section
variable {α:Type}{R R':Addr->α->Prop}{as:List Addr}{xs:List α}
def Ls.mono (h:Ls R as xs)(k:∀a x,R a x->R' a x):Ls R' as xs:=by
 induction as generalizing xs with
 |nil=>
  cases xs with
  |nil=>trivial
  |cons _ _=>exact h.elim
 |cons a as ih=>
  cases xs with
  |nil=>exact h.elim
  |cons x xs=>exact⟨k _ _ h.1,ih h.2⟩
def Ls.len (h:Ls R as xs):as.length=xs.length:=by
 induction as generalizing xs with
 |nil=>
  cases xs with
  |nil=>rfl
  |cons _ _=>exact h.elim
 |cons a as ih=>
  cases xs with
  |nil=>exact h.elim
  |cons x xs=>exact congrArg (· + 1) (ih h.2)
def Ls.get {i:Nat}{v:V}(h:Ls R as xs)(hv:(as.map V.ref)[i]? = some v):∃a x,v = .ref a/\xs[i]? = some x/\xs.drop i=x::xs.drop (i+1)/\R a x:=by
 induction as generalizing xs i with
 |nil=>cases hv
 |cons a as ih=>
  cases xs with
  |nil=>exact h.elim
  |cons x xs=>
   cases i with
   |zero=>cases hv;exact⟨a,x,rfl,rfl,rfl,h.1⟩
   |succ i=>
    obtain⟨a',x',h1,h2,h3,h4⟩:=ih (i:=i) h.2 (by simpa using hv);exact⟨a',x',h1,by simpa using h2,by simpa using h3,h4⟩
def Ls.snoc {a:Addr}{x:α}(h:Ls R as xs)(k:R a x):Ls R (as++[a]) (xs++[x]):=by
 induction as generalizing xs with
 |nil=>
  cases xs with
  |nil=>exact⟨k,trivial⟩
  |cons _ _=>exact h.elim
 |cons _ _ ih=>
  cases xs with
  |nil=>exact h.elim
  |cons _ _=>exact⟨h.1,ih h.2⟩
end
def LAt {α:Type}(R:Hp->Addr->α->Prop)(H:Hp)(l:Addr)(xs:List α):Prop:=∃as:List Addr,H l=some (.lst (as.map V.ref))/\Ls (R H) as xs
def MoR {α:Type}(R:Hp->Addr->α->Prop):Prop:=∀G G' a x,Same G G'->R G a x->R G' a x
def LAt.same {α:Type}{R:Hp->Addr->α->Prop}(m:MoR R){H H':Hp}{l:Addr}{xs:List α}(s:Same H H')(h:LAt R H l xs):LAt R H' l xs:=
 let ⟨as,e,k⟩:=h;⟨as,s _ _ e,k.mono λa x=>m _ _ a x s⟩
def pV {α:Type}{R:Hp->Addr->α->Prop}(m:MoR R):MoR (LAt R):=λ_ _ _ _ s h=>h.same m s
def PL (c:Cp)(H:Hp)(l:Addr)(ps:List PC):Prop:=∃as:List Addr,H l=some (.lst (as.map V.ref))/\PCs c H as ps
def fI {c:Cp}:MoR (PL c):=λ_ _ _ _ s ⟨as,e,k⟩=>⟨as,s _ _ e,k.same s⟩
structure EnF (β:Type) where
 sign:Bool
 parts:List PC
 within:List β
def En:Nat->Type
 |0=>Empty
 |n+1=>EnF (En n)
def kl (b:Bool):List Nat:=if b then [43] else [45]
def dE:(n:Nat)->En n->PyData
 |0,e=>nomatch e
 |n+1,e => .tuple [.str (S (kl (EnF.sign e))), .list ((EnF.parts e).map dP), .list ((EnF.within e).map (dE n))]
structure Cb where
 cp:Cp
 Heading:Addr
 Para:Addr
 Literal:Addr
 Quote:Addr
 Naming:Addr
 Noting:Addr
 Entry:Addr
 Listing:Addr
 Table:Addr
inductive BkF (β:Type) where
 |heading (n:Nat) (ps:List PC)
 |para (ps:List PC)
 |lst (es:List (En 6))
 |table (hd:List (List PC)) (sd:List Bool) (ls:List (List (List PC)))
 |lit (ls:List (List Nat))
 |quote (bs:List β)
 |name (n t:List Nat)
 |note (n:List Nat) (ps:List PC)
def Bl:Nat->Type
 |0=>BkF Empty
 |n+1=>BkF (Bl n)
def bH (b:Bool):List Nat:=if b then [114,105,103,104,116] else [108,101,102,116]
def dt (cs:List (List PC)):PyData := .list (cs.map λps => .list (ps.map dP))
def dBF {β:Type}(f:β->PyData):BkF β->PyData
 | .heading n ps => .tuple [.str "heading", .int n, .list (ps.map dP)]
 | .para ps => .tuple [.str "para", .list (ps.map dP)]
 | .lst es => .tuple [.str "list", .list (es.map (dE 6))]
 | .table hd sd ls => .tuple [.str "table",dt hd, .list (sd.map λb => .str (S (bH b))), .list (ls.map dt)]
 | .lit ls => .tuple [.str "literal", .list (ls.map λl => .str (S l))]
 | .quote bs => .tuple [.str "quote", .list (bs.map f)]
 | .name n t => .tuple [.str "name", .str (S n), .str (S t)]
 | .note n ps => .tuple [.str "note", .str (S n), .list (ps.map dP)]
def dB:(n:Nat)->Bl n->PyData
 |0,b=>dBF (λz:Empty=>nomatch z) b
 |n+1,b=>dBF (dB n) b
def EAt (c:Cb):(n:Nat)->Hp->Addr->En n->Prop
 |0,_,_,e=>nomatch e
 |n+1,H,a,e=>∃dx lp le,H a=some (.ins c.Entry dx [("sign",vS (kl (EnF.sign e))),("parts", .ref lp),("entries", .ref le)])/\PL c.cp H lp (EnF.parts e)/\LAt (EAt c n) H le (EnF.within e)
theorem eH {c:Cb}:∀n:Nat,MoR (EAt c n)
 |0=>λ_ _ _ e=>nomatch e
 |n+1=>λ_ _ _ _ s ⟨dx,lp,le,e,h1,h2⟩=>⟨dx,lp,le,s _ _ e,fI _ _ _ _ s h1,h2.same (eH n) s⟩
def BAtF {β:Type}(c:Cb)(R:Hp->Addr->β->Prop)(H:Hp)(a:Addr):BkF β->Prop
 | .heading n ps=>∃dx l,H a=some (.ins c.Heading dx [("level", .int n),("parts", .ref l)])/\PL c.cp H l ps
 | .para ps=>∃dx l,H a=some (.ins c.Para dx [("parts", .ref l)])/\PL c.cp H l ps
 | .lst es=>∃dx l,H a=some (.ins c.Listing dx [("entries", .ref l)])/\LAt (EAt c 6) H l es
 | .table hd sd ls=>∃dx lh lsd ll,H a=some (.ins c.Table dx [("head", .ref lh),("sides", .ref lsd),("lines", .ref ll)])/\LAt (PL c.cp) H lh hd/\H lsd=some (.lst (sd.map λb=>vS (bH b)))/\LAt (LAt (PL c.cp)) H ll ls
 | .lit ls=>∃dx l,H a=some (.ins c.Literal dx [("lines", .ref l)])/\H l=some (.lst (ls.map vS))
 | .quote bs=>∃dx l,H a=some (.ins c.Quote dx [("blocks", .ref l)])/\LAt R H l bs
 | .name n t=>∃dx,H a=some (.ins c.Naming dx [("name",vS n),("target",vS t)])
 | .note n ps=>∃dx l,H a=some (.ins c.Noting dx [("name",vS n),("parts", .ref l)])/\PL c.cp H l ps
def dH {β:Type}{c:Cb}{R:Hp->Addr->β->Prop}(m:MoR R):MoR (BAtF c R):=λG G' a b s h=>by
 cases b with
 |heading n ps=>obtain⟨dx,l,e,k⟩:=h;exact⟨dx,l,s _ _ e,fI _ _ _ _ s k⟩
 |para ps=>obtain⟨dx,l,e,k⟩:=h;exact⟨dx,l,s _ _ e,fI _ _ _ _ s k⟩
 |lst es=>obtain⟨dx,l,e,k⟩:=h;exact⟨dx,l,s _ _ e,k.same (eH 6) s⟩
 |table hd sd ls=>obtain⟨dx,l1,l2,l3,e,k1,k2,k3⟩:=h;exact⟨dx,l1,l2,l3,s _ _ e,k1.same fI s,s _ _ k2,k3.same (pV fI) s⟩
 |lit ls=>obtain⟨dx,l,e,k⟩:=h;exact⟨dx,l,s _ _ e,s _ _ k⟩
 |quote bs=>obtain⟨dx,l,e,k⟩:=h;exact⟨dx,l,s _ _ e,k.same m s⟩
 |name n t=>obtain⟨dx,e⟩:=h;exact⟨dx,s _ _ e⟩
 |note n ps=>obtain⟨dx,l,e,k⟩:=h;exact⟨dx,l,s _ _ e,fI _ _ _ _ s k⟩
def BAt (c:Cb):(n:Nat)->Hp->Addr->Bl n->Prop
 |0,H,a,b=>BAtF c (λ_ _ (z:Empty)=>nomatch z) H a b
 |n+1,H,a,b=>BAtF c (BAt c n) H a b
theorem aI {c:Cb}:∀n:Nat,MoR (BAt c n)
 |0=>dH λ_ _ _ z=>nomatch z
 |n+1=>dH (aI n)
structure OkPs (ps:List PC):Prop where
 len:ps.length<=1000
 ok:∀p∈ps,OkC p
 sum:(ps.map szC).sum<=20000
def OkPs.r2 {ps:List PC}(h:OkPs ps):∀p∈ps,R2 p:=yn h.ok (by have:=h.sum;omega)
def OkCs (cs:List (List PC)):Prop:=cs.length<=1000/\∀ps∈cs,OkPs ps
def OkE:(n:Nat)->En n->Prop
 |0,e=>nomatch e
 |n+1,e=>OkPs (EnF.parts e)/\(EnF.within e).length<=1000/\∀x∈EnF.within e,OkE n x
def OkBF {β:Type}(ok:β->Prop):BkF β->Prop
 | .heading n ps=>n<=3/\OkPs ps
 | .para ps=>OkPs ps
 | .lst es=>es.length<=1000/\∀e∈es,OkE 6 e
 | .table hd sd ls=>OkCs hd/\sd.length<=1000/\ls.length<=1000/\∀l∈ls,OkCs l
 | .lit ls=>ls.length<=1000/\∀l∈ls,Asc l/\l.length<=1000
 | .quote bs=>bs.length<=1000/\∀b∈bs,ok b
 | .name n t=>(Asc n/\n.length<=1000)/\Asc t/\t.length<=1000
 | .note n ps=>(Asc n/\n.length<=1000)/\OkPs ps
def OkB:(n:Nat)->Bl n->Prop
 |0,b=>OkBF (λz:Empty=>nomatch z) b
 |n+1,b=>OkBF (OkB n) b
theorem nO {α:Type}{R:Addr->α->Prop}:∀{as:List Addr} {xs:List α},as.length=xs.length->(∀(i:Nat) a x,as[i]? = some a->xs[i]? = some x->R a x)->Ls R as xs
 | [],[],_,_=>trivial
 |a::as,x::xs,hl,h=>⟨h 0 a x rfl rfl,nO (by simpa using hl) λi b y hb hy=>h (i+1) b y (by simpa using hb) (by simpa using hy)⟩
def gD {K:Frag}{a:Addr}{xs:List V}{k:Nat}{fr:List Nat}{g:TG}{tt:TT}{te:TE}{σ:St}{H0:Hp}{Q:Addr->Hp->Prop}(R:Nat->Addr->Hp->Prop)(hR:∀i b G G',Same G G'->R i b G->R i b G')(hx:SqL K H0 a xs)(hl:xs.length<=1000000)
  (ht:∀(i:Nat) x,xs[i]? = some x->∀H',Same H0 H'->∀(C:V->Hp->Prop)(N:Hp->Prop),(∀b H4,Same H' H4->H' b=none->R i b (dif H' H4)->C (.ref b) H4) →
   g x (nfS k fr σ) H' λσ2 H2=>nfLe k fr σ σ2/\tt σ2 H2 λb H3=>if b=true then te σ2 H3 C else N H3)
  (hq:∀D H' (bs:List Addr),H0 D=none->Same H0 H'->H' D=some (.lst (bs.map V.ref))->bs.length=xs.length->(∀(i:Nat) b,bs[i]? = some b->R i b (dif H0 H'))->Q D H'):rLC k fr g tt te σ (Itl K a) H0 Q:=by
 intro D hD;refine⟨λi m acc H=>m=xs.length - i/\i<=xs.length/\Same H0 H/\H D=some (.lst acc)/\∃bs:List Addr,acc=bs.map V.ref/\bs.length=i/\NewQ H0 [D] H λG=>∀(j:Nat) b,bs[j]? = some b->R j b G,⟨xs.length,by simp,l10 _,ac hD _,aa,[],rfl,rfl,NewQ.triv λj b h=>by simp at h⟩,?_⟩;rintro i m acc H ⟨rfl,hi,sm,hDa,bs,rfl,hbl,hn⟩;refine⟨hDa,?_⟩;by_cases hlt:i < xs.length
 ·refine .inr ⟨⟨xs,xs[i],sm.seq hx,by simp[hlt]⟩,λx H' y=>?_⟩;obtain⟨e,y⟩:=y;rw[e];refine ht i x (y xs (sm.seq hx)) _ sm _ _ λb H4 s4 hb rb=>?_;refine⟨s4 _ _ hDa,by rw[l0,sizeLine_eq];omega,xs.length - (i+1),by omega,rfl,hlt,af hD (sm.trans s4),aa,bs++[b],by rw[l15];rfl,by rw[l6,hbl];rfl,?_⟩;refine NewQ.upd ?_ l8;refine NewQ.join (hn.same s4) (NewQ.of (H3:=H) (R:=R i b) sm (λb' hb'=>by rw[l14.mp hb',hDa];exact λz=>nomatch z) rb) (λG G' s h j b' hj=>hR _ _ _ _ s (h j b' hj)) (λG G' s h=>hR _ _ _ _ s h) λG h1 h2 j b' hj=>?_;by_cases hji:j < bs.length
  ·rw[List.getElem?_append_left hji] at hj;exact h1 j b' hj
  ·rw[List.getElem?_append_right nofun] at hj;obtain⟨hj0,_⟩:=List.getElem?_eq_some_iff.mp hj;have hje:j=i:=by simp at hj0;omega
   subst hje;rw[hbl,l59] at hj;cases hj;exact h2
 ·have e:i=xs.length:=by omega
  subst e;exact .inl ⟨⟨xs,sm.seq hx,l5 _⟩,hq D H bs hD sm hDa hbl (hn.dif λG G' s h j b' hj=>hR _ _ _ _ s (h j b' hj))⟩
end Lw
namespace K15
open PySem L2 Lm Lw
structure TxB (K:Frag)(mg:Str->Option Value)(c:Cb)(BT:Addr):Prop extends TxI K mg c.cp BT where
 q12:∃t,mg "FENCE"=some (.str (S [126,126,126]) t)
 z13:mg "enumerate"=none
 g23:Inst K c.Heading
 g30:Inst K c.Para
 z30:Inst K c.Literal
 q30:Inst K c.Quote
 z23:Inst K c.Naming
 q23:Inst K c.Noting
 q14:Inst K c.Entry
 u31:Inst K c.Listing
 u15:Inst K c.Table
 g31:NoAttr K c.Heading "level"
 z31:NoAttr K c.Heading "parts"
 q31:NoAttr K c.Para "parts"
 u32:NoAttr K c.Literal "lines"
 g32:NoAttr K c.Quote "blocks"
 z32:NoAttr K c.Naming "name"
 q32:NoAttr K c.Naming "target"
 u33:NoAttr K c.Noting "name"
 g33:NoAttr K c.Noting "parts"
 z33:NoAttr K c.Entry "sign"
 q33:NoAttr K c.Entry "parts"
 u34:NoAttr K c.Entry "entries"
 g34:NoAttr K c.Listing "entries"
 z34:NoAttr K c.Table "head"
 q34:NoAttr K c.Table "sides"
 u35:NoAttr K c.Table "lines"
section
variable {c:Cb}{BT:Addr}
inductive spInitL (C:Addr)(fl:Str)(vs:List V)(H:Hp)(Q:VK)(u3:XK):Prop
 |mk (x dx l xs)(_:vs=[.ref x, .ref l])(_:H x=some (.ins C dx []))(_:H l=some (.lst xs))(_:∀p H',H p=none->KeepX x H H'->H' p=some (.lst xs)->H' x=some (.ins C dx [(fl, .ref p)])->Q .non H')
inductive spInitVL (C:Addr)(f1 f2:Str)(vs:List V)(H:Hp)(Q:VK)(u3:XK):Prop
 |mk (x dx v l xs)(_:vs=[.ref x,v, .ref l])(_:H x=some (.ins C dx []))(_:H l=some (.lst xs))(_:∀p H',H p=none->KeepX x H H'->H' p=some (.lst xs)->H' x=some (.ins C dx [(f1,v),(f2, .ref p)])->Q .non H')
inductive spInitE (C:Addr)(vs:List V)(H:Hp)(Q:VK)(u3:XK):Prop
 |mk (x dx v l xs m ys)(_:vs=[.ref x,v, .ref l, .ref m])(_:H x=some (.ins C dx []))(_:H l=some (.lst xs))(_:H m=some (.lst ys))(_:∀p r H',H p=none->H r=none->KeepX x H H'->H' p=some (.lst xs)->H' r=some (.lst ys)->H' x=some (.ins C dx [("sign",v),("parts", .ref p),("entries", .ref r)])->Q .non H')
def bG {x p:Addr}{H:Hp}{o:HO}(h:H p=none):KeepX x H (upd H p o):=λb o' _ e=>(ag (nq h e)).trans e
def keep_upd {x:Addr}{H:Hp}{o:HO}:KeepX x H (upd H x o):=λb o' nb e=>(ag nb).trans e
def gE {x b:Addr}{H H':Hp}(k:KeepX x H H')(hb:b≠x)(h:H' b=none):H b=none:=by
 cases e:H b with
 |none=>rfl
 |some o=>rw[k b o hb e] at h;cases h
abbrev b9:Stmt:=meth 43 0
abbrev eI:Stmt:=meth 44 0
abbrev ca:Stmt:=meth 45 0
abbrev da:Stmt:=meth 46 0
abbrev cH:Stmt:=meth 47 0
abbrev cI:Stmt:=meth 48 0
abbrev db:Stmt:=meth 68 0
abbrev cb:Stmt:=meth 69 0
abbrev de:Stmt:=meth 74 0
def lD (F:Fun K "__init__" "Para.__init__" eI f fd)(T:TxB K mg c BT):FnOk P w K mg base CX0 1 f fd p10 (spInitL c.Para "parts"):=by
 have sc:FnScope p10 p10 (ad eI):=mkS;refine F.oks sc λH Q hr h=>?_;obtain⟨x,dx,l,xs,rfl,e,el,q⟩:=h;refine ap (xb1 (aO (xv 0) (xcTy aD T.g10 rfl (xac (xv 1) xa0)))) ?_;refine⟨_,rfl,l,_,rfl, .inl (SqL.of el),λp hp=>⟨_,rfl,x,_,dx,_,rfl,ac hp _ _ _ e,T.g30.cls,T.q31,by decide,?_⟩⟩;have hpx:p≠x:=(nq e hp);exact q p _ hp ((bG hp).trans keep_upd) ((ag hpx).trans aa) aa
def gZ (F:Fun K "__init__" "Literal.__init__" ca f fd)(T:TxB K mg c BT):FnOk P w K mg base CX0 1 f fd p14 (spInitL c.Literal "lines"):=by
 have sc:FnScope p14 p14 (ad ca):=mkS;refine F.oks sc λH Q hr h=>?_;obtain⟨x,dx,l,xs,rfl,e,el,q⟩:=h;refine ap (xb1 (aO (xv 0) (xcTy aD T.g10 rfl (xac (xv 1) xa0)))) ?_;refine⟨_,rfl,l,_,rfl, .inl (SqL.of el),λp hp=>⟨_,rfl,x,_,dx,_,rfl,ac hp _ _ _ e,T.z30.cls,T.u32,by decide,?_⟩⟩;have hpx:p≠x:=(nq e hp);exact q p _ hp ((bG hp).trans keep_upd) ((ag hpx).trans aa) aa
def km (F:Fun K "__init__" "Quote.__init__" da f fd)(T:TxB K mg c BT):FnOk P w K mg base CX0 1 f fd p11 (spInitL c.Quote "blocks"):=by
 have sc:FnScope p11 p11 (ad da):=mkS;refine F.oks sc λH Q hr h=>?_;obtain⟨x,dx,l,xs,rfl,e,el,q⟩:=h;refine ap (xb1 (aO (xv 0) (xcTy aD T.g10 rfl (xac (xv 1) xa0)))) ?_;refine⟨_,rfl,l,_,rfl, .inl (SqL.of el),λp hp=>⟨_,rfl,x,_,dx,_,rfl,ac hp _ _ _ e,T.q30.cls,T.g32,by decide,?_⟩⟩;have hpx:p≠x:=(nq e hp);exact q p _ hp ((bG hp).trans keep_upd) ((ag hpx).trans aa) aa
def g0 (F:Fun K "__init__" "Listing.__init__" cb f fd)(T:TxB K mg c BT):FnOk P w K mg base CX0 1 f fd p18 (spInitL c.Listing "entries"):=by
 have sc:FnScope p18 p18 (ad cb):=mkS;refine F.oks sc λH Q hr h=>?_;obtain⟨x,dx,l,xs,rfl,e,el,q⟩:=h;refine ap (xb1 (aO (xv 0) (xcTy aD T.g10 rfl (xac (xv 1) xa0)))) ?_;refine⟨_,rfl,l,_,rfl, .inl (SqL.of el),λp hp=>⟨_,rfl,x,_,dx,_,rfl,ac hp _ _ _ e,T.u31.cls,T.g34,by decide,?_⟩⟩;have hpx:p≠x:=(nq e hp);exact q p _ hp ((bG hp).trans keep_upd) ((ag hpx).trans aa) aa
def g6 (F:Fun K "__init__" "Heading.__init__" b9 f fd)(T:TxB K mg c BT):FnOk P w K mg base CX0 1 f fd p19 (spInitVL c.Heading "level" "parts"):=by
 have sc:FnScope p19 p19 (ad b9):=mkS;refine F.oks sc λH Q hr h=>?_;obtain⟨x,dx,v,l,xs,rfl,e,el,q⟩:=h;refine ap (xbc (aO (xv 0) (xv 1))
  (xb1 (aO (xv 0) (xcTy aD T.g10 rfl (xac (xv 2) xa0))))) ?_
 have hlx:l≠x:=(nq e el);refine⟨_,rfl,_,rfl,x,_,dx,_,rfl,e,T.g23.cls,T.g31,by decide,?_⟩;refine⟨_,rfl,l,_,rfl, .inl (SqL.of ((ag hlx).trans el)),λp hp=>⟨_,rfl,x,_,dx,_,rfl,ac hp _ _ _ aa,T.g23.cls,T.z31,by show 1 < 1000;decide,?_⟩⟩;have hpx:p≠x:=(nq aa hp);exact q p _ (by rwa [ag hpx] at hp) ((keep_upd.trans (bG hp)).trans keep_upd) ((ag hpx).trans aa) aa
def je (F:Fun K "__init__" "Noting.__init__" cI f fd)(T:TxB K mg c BT):FnOk P w K mg base CX0 1 f fd p20 (spInitVL c.Noting "name" "parts"):=by
 have sc:FnScope p20 p20 (ad cI):=mkS;refine F.oks sc λH Q hr h=>?_;obtain⟨x,dx,v,l,xs,rfl,e,el,q⟩:=h;refine ap (xbc (aO (xv 0) (xv 1))
  (xb1 (aO (xv 0) (xcTy aD T.g10 rfl (xac (xv 2) xa0))))) ?_
 have hlx:l≠x:=(nq e el);refine⟨_,rfl,_,rfl,x,_,dx,_,rfl,e,T.q23.cls,T.u33,by decide,?_⟩;refine⟨_,rfl,l,_,rfl, .inl (SqL.of ((ag hlx).trans el)),λp hp=>⟨_,rfl,x,_,dx,_,rfl,ac hp _ _ _ aa,T.q23.cls,T.g33,by show 1 < 1000;decide,?_⟩⟩;have hpx:p≠x:=(nq aa hp);exact q p _ (by rwa [ag hpx] at hp) ((keep_upd.trans (bG hp)).trans keep_upd) ((ag hpx).trans aa) aa
def jf (F:Fun K "__init__" "Naming.__init__" cH f fd)(T:TxB K mg c BT):FnOk P w K mg base CX0 1 f fd p21 (spInit2 c.Naming "name" "target"):=by
 have sc:FnScope p21 p21 (ad cH):=mkS;refine F.oks sc λH Q hr h=>?_;obtain⟨x,dx,v,u,rfl,e,q⟩:=h;refine ap (xbc (aO (xv 0) (xv 1))
  (xb1 (aO (xv 0) (xv 2)))) ?_
 refine⟨_,rfl,_,rfl,x,_,dx,_,rfl,e,T.z23.cls,T.z32,by decide,?_⟩;exact⟨_,rfl,_,rfl,x,_,dx,_,rfl,aa,T.z23.cls,T.q32,by show 1 < 1000;decide,q⟩
def kn (F:Fun K "__init__" "Entry.__init__" db f fd)(T:TxB K mg c BT):FnOk P w K mg base CX0 1 f fd p22 (spInitE c.Entry):=by
 have sc:FnScope p22 p22 (ad db):=mkS;refine F.oks sc λH Q hr h=>?_;obtain⟨x,dx,v,l,xs,m,ys,rfl,e,el,em,q⟩:=h;refine ap (xbc (aO (xv 0) (xv 1))
  (xbc (aO (xv 0) (xcTy aD T.g10 rfl (xac (xv 2) xa0)))
  (xb1 (aO (xv 0) (xcTy aD T.g10 rfl (xac (xv 3) xa0)))))) ?_
 have hlx:l≠x:=(nq e el);have hmx:m≠x:=(nq e em);refine⟨_,rfl,_,rfl,x,_,dx,_,rfl,e,T.q14.cls,T.z33,by decide,?_⟩;refine⟨_,rfl,l,_,rfl, .inl (SqL.of ((ag hlx).trans el)),λp hp=>⟨_,rfl,x,_,dx,_,rfl,ac hp _ _ _ aa,T.q14.cls,T.q33,by show 1 < 1000;decide,?_⟩⟩;have hpx:p≠x:=(nq aa hp);have hpH:H p=none:=by rwa [ag hpx] at hp
 have hmp:m≠p:=(nq hpH em);refine⟨_,rfl,m,_,rfl, .inl (SqL.of ((ag hmx).trans ((ag hmp).trans ((ag hmx).trans em)))),λr hr'=>⟨_,rfl,x,_,dx,_,rfl,ac hr' _ _ _ aa,T.q14.cls,T.u34,by show 2 < 1000;decide,?_⟩⟩;have hrx:r≠x:=λz=>by rw[z,aa] at hr';cases hr'
 have hrp:p≠r:=λz=>by rw[<- z,ag hpx,aa] at hr';cases hr'
 have k2:=(keep_upd.trans (bG (x:=x) (o := .lst xs) hp)).trans (keep_upd (x:=x) (o := .ins c.Entry dx (putF "parts" (.ref p) (putF "sign" v []))));exact q p r _ hpH (gE k2 hrx hr') ((k2.trans (bG hr')).trans keep_upd) ((ag hpx).trans ((ag hrp).trans ((ag hpx).trans aa))) ((ag hrx).trans aa) aa
def LV (H:Hp)(l:Addr)(xss:List (List V)):Prop:=LAt (λH a (xs:List V)=>H a=some (.lst xs)) H l xss
def lE:MoR LV:=pV λ_ _ _ _ s h=>s _ _ h
abbrev sOwn:Stmt:=top 75
inductive spOwn (vs:List V)(H:Hp)(Q:VK)(u3:XK):Prop
 |mk (l:Addr)(xss:List (List V))(_:vs=[.ref l])(_:LV H l xss)(_:xss.length<=100000)(_:∀r H',Same H H'->H r=none->LV (dif H H') r xss->Q (.ref r) H')
def xg (F:Fun K "own_cells" "own_cells" sOwn f fd)(T:TxB K mg c BT):FnOk P w K mg base CX0 1 f fd ["cells"] spOwn:=by
 have sc:FnScope ["cells"] ["cells"] (ad sOwn):=mkS;refine F.oks sc λ{_ _ _ s vs _}H Q hr h=>?_;obtain⟨l,xss,rfl,⟨as,el,hls⟩,hl,q⟩:=h;refine ap (xb1 (xret (xlc0 (own:=["cell"])
  (xil (xv 0))
  (λ_ _ _ _=>xgm (i:=0) (show (["cell"]:List Str).Nodup by decide)) (λ_ _ _ _=>xq0) (λ_ _ _ _=>(xcTy iU T.g10 rfl (xac (xv 0) xa0)))))) ?_
 have w6:=hls.len;refine⟨_,rfl,l,rfl,⟨_,SqL.of el⟩,?_⟩;refine gD (λi a' G=>G a'=some (.lst (xss.getD i []))) (λ_ _ _ _ s h=>s _ _ h) (SqL.of el) (by rw[l0];omega) ?_ ?_
 ·intro i x hx H2 s2 C N hC;obtain⟨a,xs,rfl,hxi,_,e⟩:=hls.get hx;refine⟨(nfLe.refl _ _ _).set ∅ _,iteT (B:=N H2) ⟨_,rfl,a,xs,rfl, .inl (SqL.of (s2 _ _ e)),λp hp=>hC p _ (ac hp _) hp ?_⟩⟩;rw[l23,hxi,ar hp];exact aa
 ·intro D H2 bs hD s2 eD hbl hbs;refine q D H2 s2 hD ⟨bs,by rw[ar hD];exact eD,?_⟩;refine nO (by rw[hbl,l0,w6]) λi b x hb hx=>?_;have:=hbs i b hb;rwa [l23,hx] at this
inductive spInitT (C:Addr)(vs:List V)(H:Hp)(Q:VK)(u3:XK):Prop
 |mk (x dx h sd ln hss sv lss)(_:vs=[.ref x, .ref h, .ref sd, .ref ln])(_:H x=some (.ins C dx []))(_:LV H h hss)(_:hss.length<=100000)(_:H sd=some (.lst sv))(_:LAt LV H ln lss)(_:lss.length<=100000)(_:∀l∈lss,l.length<=100000)(_:∀h' s' l' H',KeepX x H H'->LV (dif H H') h' hss->dif H H' s'=some (.lst sv)->LAt LV (dif H H') l' lss->H' x=some (.ins C dx [("head", .ref h'),("sides", .ref s'),("lines", .ref l')])->Q .non H')
def offX (H:Hp)(x:Addr):Hp:=λb=>if b=x then none else H b
def pW {H H':Hp}{x:Addr}(k:KeepX x H H'):Same (offX H x) H':=λb o e=>by
 unfold offX at e;split at e
 ·cases e
 ·rename_i hb;exact k b o hb e
def mN {H:Hp}{x a:Addr}{xs:List V}{C dx:Addr}{fs:List (Str×V)}(hx:H x=some (.ins C dx fs))(e:H a=some (.lst xs)):offX H x a=some (.lst xs):=by
 unfold offX;rw[if_neg (nq hx e)];exact e
def LV.off {H:Hp}{x l:Addr}{xss:List (List V)}{C dx:Addr}{fs:List (Str×V)}(hx:H x=some (.ins C dx fs))(h:LV H l xss):LV (offX H x) l xss:=let ⟨as,e,k⟩:=h;⟨as,mN hx e,k.mono λ_ _ z=>mN hx z⟩
def tO {H H1 H2 H3:Hp}{x:Addr}(hx:H x≠none)(h1:∀b,b≠x->H1 b=none->H b=none)(hx1:H1 x≠none)(k:KeepX x H2 H3):Same (dif H1 H2) (dif H H3):=λb o e=>by
 obtain⟨n,e⟩:=dX e;have hb:b≠x:=λz=>hx1 (z▸n);rw[ar (h1 b hb n)];exact k b o hb e
def ko (F:Fun K "__init__" "Table.__init__" de f fd)(T:TxB K mg c BT)(DE:Def P w K mg base 1 "own_cells" ["cells"] spOwn):FnOk P w K mg base CX0 2 f fd p23 (spInitT c.Table):=by
 have sc:FnScope p23 p23 (ad de):=mkS;refine F.oks sc λ{_ _ _ s _ _}H Q hr h=>?_;obtain⟨x,dx,h,sd,ln,hss,sv,lss,rfl,e,eh,lh,es,⟨as,el,hls⟩,ll,lll,q⟩:=h;refine ap (xbc (aO (xv 0) (xcd DE hr (xac (xv 1) xa0)))
  (xbc (aO (xv 0) (xcTy aD T.g10 rfl (xac (xv 2) xa0)))
  (xb1 (aO (xv 0) (xlc0 (own:=["line"])
  (xil (xv 3))
  (λ_ _ _ _=>xgm (i:=0) (show (["line"]:List Str).Nodup by decide)) (λ_ _ _ _=>xq0) (λ_ _ _ _=>(xcd DE hr (xac (xv 0) xa0)))))))) ?_
 refine⟨_,rfl,h,hss,rfl,eh,lh,λr1 H1 s1 hr1 d1=>⟨_,rfl,x,_,dx,_,rfl,s1 _ _ e,T.u15.cls,T.z34,by decide,?_⟩⟩;have hsx:sd≠x:=(nq e es);have hlx:ln≠x:=(nq e el);refine⟨_,rfl,sd,_,rfl, .inl (SqL.of ((ag hsx).trans (s1 _ _ es))),λp hp=>⟨_,rfl,x,_,dx,_,rfl,ac hp _ _ _ aa,T.u15.cls,T.q34,by show 1 < 1000;decide,?_⟩⟩;have hpx:p≠x:=(nq aa hp);have hp1:H1 p=none:=by rwa [ag hpx] at hp
 have k1:KeepX x H H1:=λb o _ h=>s1 _ _ h;have k4:KeepX x H1 (upd (upd (upd H1 x (.ins c.Table dx (putF "head" (.ref r1) []))) p (.lst sv)) x (.ins c.Table dx (putF "sides" (.ref p) (putF "head" (.ref r1) [])))):=(keep_upd.trans (bG hp)).trans keep_upd;have e4p:upd (upd (upd H1 x (.ins c.Table dx (putF "head" (.ref r1) []))) p (.lst sv)) x (.ins c.Table dx (putF "sides" (.ref p) (putF "head" (.ref r1) []))) p=some (.lst sv):=(ag hpx).trans aa;have e4x:upd (upd (upd H1 x (.ins c.Table dx (putF "head" (.ref r1) []))) p (.lst sv)) x (.ins c.Table dx (putF "sides" (.ref p) (putF "head" (.ref r1) []))) x=some (.ins c.Table dx [("head", .ref r1),("sides", .ref p)]):=aa;refine⟨_,rfl,ln,rfl,⟨_,SqL.of (k4 _ _ hlx (s1 _ _ el))⟩,?_⟩;generalize upd (upd (upd H1 x (.ins c.Table dx (putF "head" (.ref r1) []))) p (.lst sv)) x (.ins c.Table dx (putF "sides" (.ref p) (putF "head" (.ref r1) [])))=H4 at k4 e4p e4x ⊢;have kk:=k1.trans k4;refine gD (λi b G=>LV G b (lss.getD i [])) (λi b G G' s h=>lE _ _ _ _ s h) (SqL.of (kk _ _ hlx el)) (by rw[l0,hls.len];omega) ?_ ?_
 ·intro i v hv H5 s5 C N hC;obtain⟨a,xs,rfl,hxi,_,hl⟩:=hls.get hv;have hm:=l16 hxi;refine⟨(nfLe.refl _ _ _).set ∅ _,iteT (B:=N H5) ⟨_,rfl,a,xs,rfl,lE _ _ _ _ ((pW kk).trans s5) (hl.off e),lll _ hm,λb H6 s6 hb d6=>hC b H6 s6 hb ?_⟩⟩;rw[l23,hxi];exact d6
 ·intro D H5 bs hD s5 eD hbl hbs;refine⟨_,rfl,x,_,dx,_,rfl,s5 _ _ e4x,T.u15.cls,T.u35,by show 2 < 1000;decide,?_⟩;have kH5:KeepX x H4 H5:=λb o _ h=>s5 _ _ h;have k46:=kH5.trans (keep_upd (o := .ins c.Table dx (putF "lines" (.ref D) [("head", .ref r1),("sides", .ref p)])));have nn:H x≠none:=nz e;have n4:H4 x≠none:=nz e4x;have n1:H1 x≠none:=by rw[s1 _ _ e];exact λz=>nomatch z
  have nD : LAt LV (dif H4 H5) D lss := ⟨bs,by rw[ar hD];exact eD,nO (by rw[hbl,l0,hls.len]) λi b y hb hy=>by
   have:=hbs i b hb;rwa [l23,hy] at this⟩
  refine q r1 p D _ (kk.trans k46) (lE _ _ _ _ (tO nn (λb hb z=>z) nn (k4.trans k46)) d1) ?_ (nD.same lE (tO nn (λb hb z=>gE kk hb z) n4 keep_upd)) aa;rw[ar (gE k1 hpx hp1)];exact k46 _ _ hpx e4p
end
def bd {α β:Type}(xs:List α)(g:α->β)(d:β):(List.range xs.length).map (λi=>((xs[i]?).map g).getD d)=xs.map g:=by
 apply l73;intro i;rw[List.getElem?_map,List.getElem?_map];by_cases hi:i < xs.length
 ·rw[List.getElem?_range hi,List.getElem?_eq_getElem hi];simp only[l84,List.getElem?_eq_getElem hi,Option.getD_some]
 ·rw[List.getElem?_eq_none (by rw[l38];omega),List.getElem?_eq_none nofun];rfl
def dn_k {G:Hp}{k:Str}(h:(PyData.strOk k&&decide (k.length<=100000))=true:=by decide):Dn G (.str k) (.str k):=by
 rw[Bool.and_eq_true] at h;exact .str k h.1 (of_decide_eq_true h.2)
def dn_S {G:Hp}{l:List Nat}(h:Asc l/\l.length<=1000):Dn G (vS l) (.str (S l)):=(gy h.1 nofun).dn
theorem nP {G:Hp}:∀{ls:List (List Nat)},(∀l∈ls,Asc l/\l.length<=1000)->DnAll G (ls.map vS) (ls.map λl=>PyData.str (S l))
 | [],_ => .nil
 |l::ls,h => .cons (dn_S (h l l8)) (nP λx hx=>h x (l7 _ hx))
def cJ {H0 H:Hp}{t:Addr}{xs:List V}{ds:List PyData}(s:Same H0 H)(ht:H t=none)(d:DnAll (dif H0 H) xs ds):Same H0 (upd H t (.tup xs))/\Dn (dif H0 (upd H t (.tup xs))) (.ref t) (.tuple ds):=
 ⟨s.trans (ac ht _), .tup (by rw[ar (s.free ht),aa]) (d.same (av (Same.refl _) (ac ht _)))⟩
def pX {H0 H:Hp}{t:Addr}{xs:List V}{ds:List PyData}(s:Same H0 H)(ht:H t=none)(d:DnAll (dif H0 H) xs ds)(hl:xs.length<=100000):Same H0 (upd H t (.lst xs))/\Dn (dif H0 (upd H t (.lst xs))) (.ref t) (.list ds):=
 ⟨s.trans (ac ht _), .lst (by rw[ar (s.free ht),aa]) (d.same (av (Same.refl _) (ac ht _))) hl⟩
inductive spTB {β:Type}(c:Cb)(R:Hp->Addr->β->Prop)(f:β->PyData)(ok:β->Prop)(S:BkF β->Prop)(vs:List V)(H:Hp)(Q:VK)(u3:XK):Prop
 |mk (a b)(_:vs=[.ref a])(_:BAtF c R H a b)(_:S b)(_:OkBF ok b)(_:∀v H',Same H H'->Dn (dif H H') v (dBF f b)->Q v H')
inductive spTC (c:Cb)(vs:List V)(H:Hp)(Q:VK)(u3:XK):Prop
 |mk (l:Addr)(cs:List (List PC))(_:vs=[.ref l])(_:LAt (PL c.cp) H l cs)(_:OkCs cs)(_:∀r H',Same H H'->Dn (dif H H') (.ref r) (dt cs)->Q (.ref r) H')
inductive spTEs (c:Cb)(n:Nat)(vs:List V)(H:Hp)(Q:VK)(u3:XK):Prop
 |mk (l:Addr)(es:List (En n))(_:vs=[.ref l])(_:LAt (EAt c n) H l es)(_:es.length<=1000)(_:∀e∈es,OkE n e)(_:∀r H',Same H H'->Dn (dif H H') (.ref r) (.list (es.map (dE n)))->Q (.ref r) H')
inductive spTE (c:Cb)(n:Nat)(vs:List V)(H:Hp)(Q:VK)(u3:XK):Prop
 |mk (a:Addr)(e:En n)(_:vs=[.ref a])(_:EAt c n H a e)(_:OkE n e)(_:∀v H',Same H H'->Dn (dif H H') v (dE n e)->Q v H')
def MV (P:Program)(w:World)(K:Frag)(mg:Str->Option Value)(base:Heap)(k:Nat){β:Type}(m:Str)(R:Hp->Addr->β->Prop)(ok:β->Prop)(post:β->Hp->V->Hp->Prop):Prop:=
 ∀b,ok b->∀H a,R H a b->∃C dx fs sp,H a=some (.ins C dx fs)/\fs.lookup m=none/\MethV P w K mg base k C m ["self"] sp/\∀Q E,(∀v H',post b H v H'->Q v H')->sp [.ref a] H Q E
inductive tellsB {β:Type}(f:β->PyData)(b:β)(H:Hp)(v:V)(H':Hp):Prop
 |mk (_:Same H H')(_:Dn (dif H H') v (f b))
section
variable {c:Cb}{BT:Addr}{β:Type}{R:Hp->Addr->β->Prop}{fB:β->PyData}{ok:β->Prop}
abbrev ce:Stmt:=meth 43 1
abbrev eJ:Stmt:=meth 44 1
abbrev cf:Stmt:=meth 45 1
abbrev df:Stmt:=meth 46 1
abbrev cK:Stmt:=meth 47 1
abbrev cL:Stmt:=meth 48 1
abbrev dg:Stmt:=meth 68 1
abbrev cg:Stmt:=meth 69 1
abbrev di:Stmt:=meth 74 1
def g7 (F:Fun K "told" "Heading.told" ce f fd)(T:TxB K mg c BT)(Dc:Def P w K mg base 4 "told_parts" ["parts"] (spTolds c.cp R2)):FnOk P w K mg base CX0 5 f fd ["self"] (spTB c R fB ok λb=>∃n ps,b = .heading n ps):=by
 have sc:FnScope ["self"] ["self"] (ad ce):=mkS;refine F.oks sc λH Q hr h=>?_;obtain⟨a,b,rfl,ha,⟨n,ps,rfl⟩,hok,q⟩:=h;obtain⟨dx,l,e,as,el,hps⟩:=ha;refine ap (xb1 (xret (xtup (xac xstr (xac (xfld (xv 0)) (xac (xcd Dc hr (xac (xfld (xv 0)) xa0)) xa0)))))) ?_;have y6:OkPs ps:=hok.2;refine⟨_,rfl,a,_,dx,_,_,rfl,e,T.g23.cls,T.g31,rfl,_,rfl,a,_,dx,_,_,rfl,e,T.g23.cls,T.z31,rfl,l,as,ps,rfl,el,hps,y6.r2,by rw[hps.len];have:=y6.len;omega,λr H1 s1 d1=>⟨bg3,λt ht=>?_⟩⟩;obtain⟨a1,a2⟩:=cJ s1 ht (.cons (dn_k (k:="heading")) (.cons (.int _) (.cons d1 .nil)));exact q _ _ a1 a2
def lF (F:Fun K "told" "Para.told" eJ f fd)(T:TxB K mg c BT)(Dc:Def P w K mg base 4 "told_parts" ["parts"] (spTolds c.cp R2)):FnOk P w K mg base CX0 5 f fd ["self"] (spTB c R fB ok λb=>∃ps,b = .para ps):=by
 have sc:FnScope ["self"] ["self"] (ad eJ):=mkS;refine F.oks sc λH Q hr h=>?_;obtain⟨a,b,rfl,ha,⟨ps,rfl⟩,hok,q⟩:=h;obtain⟨dx,l,e,as,el,hps⟩:=ha;refine ap (xb1 (xret (xtup (xac xstr (xac (xcd Dc hr (xac (xfld (xv 0)) xa0)) xa0))))) ?_;have y6:OkPs ps:=hok;refine⟨_,rfl,a,_,dx,_,_,rfl,e,T.g30.cls,T.q31,rfl,l,as,ps,rfl,el,hps,y6.r2,by rw[hps.len];have:=y6.len;omega,λr H1 s1 d1=>⟨bg2,λt ht=>?_⟩⟩;obtain⟨a1,a2⟩:=cJ s1 ht (.cons (dn_k (k:="para")) (.cons d1 .nil));exact q _ _ a1 a2
def jg (F:Fun K "told" "Noting.told" cL f fd)(T:TxB K mg c BT)(Dc:Def P w K mg base 4 "told_parts" ["parts"] (spTolds c.cp R2)):FnOk P w K mg base CX0 5 f fd ["self"] (spTB c R fB ok λb=>∃n ps,b = .note n ps):=by
 have sc:FnScope ["self"] ["self"] (ad cL):=mkS;refine F.oks sc λH Q hr h=>?_;obtain⟨a,b,rfl,ha,⟨n,ps,rfl⟩,hok,q⟩:=h;obtain⟨dx,l,e,as,el,hps⟩:=ha;refine ap (xb1 (xret (xtup (xac xstr (xac (xfld (xv 0)) (xac (xcd Dc hr (xac (xfld (xv 0)) xa0)) xa0)))))) ?_;have y6:OkPs ps:=hok.2;refine⟨_,rfl,a,_,dx,_,_,rfl,e,T.q23.cls,T.u33,rfl,_,rfl,a,_,dx,_,_,rfl,e,T.q23.cls,T.g33,rfl,l,as,ps,rfl,el,hps,y6.r2,by rw[hps.len];have:=y6.len;omega,λr H1 s1 d1=>⟨bg3,λt ht=>?_⟩⟩;obtain⟨a1,a2⟩:=cJ s1 ht (.cons (dn_k (k:="note")) (.cons (dn_S hok.1) (.cons d1 .nil)));exact q _ _ a1 a2
def jh (F:Fun K "told" "Naming.told" cK f fd)(T:TxB K mg c BT):FnOk P w K mg base CX0 1 f fd ["self"] (spTB c R fB ok λb=>∃n t,b = .name n t):=by
 have sc:FnScope ["self"] ["self"] (ad cK):=mkS;refine F.oks sc λH Q hr h=>?_;obtain⟨a,b,rfl,ha,⟨n,u,rfl⟩,hok,q⟩:=h;obtain⟨dx,e⟩:=ha;refine ap (xb1 (xret (xtup (xac xstr (xac (xfld (xv 0)) (xac (xfld (xv 0)) xa0)))))) ?_;refine⟨_,rfl,a,_,dx,_,_,rfl,e,T.z23.cls,T.z32,rfl,_,rfl,a,_,dx,_,_,rfl,e,T.z23.cls,T.q32,rfl,bg3,λt ht=>?_⟩;obtain⟨a1,a2⟩:=cJ (Same.refl H) ht (.cons (dn_k (k:="name")) (.cons (dn_S hok.1) (.cons (dn_S hok.2) .nil)));exact q _ _ a1 a2
def g8 (F:Fun K "told" "Literal.told" cf f fd)(T:TxB K mg c BT):FnOk P w K mg base CX0 1 f fd ["self"] (spTB c R fB ok λb=>∃ls,b = .lit ls):=by
 have sc:FnScope ["self"] ["self"] (ad cf):=mkS;refine F.oks sc λH Q hr h=>?_;obtain⟨a,b,rfl,ha,⟨ls,rfl⟩,hok,q⟩:=h;obtain⟨dx,l,e,el⟩:=ha;refine ap (xb1 (xret (xtup (xac xstr (xac (xcTy aD T.g10 rfl (xac (xfld (xv 0)) xa0)) xa0))))) ?_;refine⟨_,rfl,a,_,dx,_,_,rfl,e,T.z30.cls,T.u32,rfl,l,_,rfl, .inl (SqL.of el),λp hp=>⟨bg2,λt ht=>?_⟩⟩;obtain⟨b1,b2⟩:=pX (Same.refl H) hp (nP hok.2) (by rw[l0];have:=hok.1;omega);obtain⟨a1,a2⟩:=cJ b1 ht (.cons (dn_k (k:="literal")) (.cons b2 .nil));exact q _ _ a1 a2
def g9 {k:Nat}(F:Fun K "told" "Listing.told" cg f fd)(T:TxB K mg c BT)(DZ:Def P w K mg base k "told_entries" ["entries"] (spTEs c 6)):FnOk P w K mg base CX0 (k+1) f fd ["self"] (spTB c R fB ok λb=>∃es,b = .lst es):=by
 have sc:FnScope ["self"] ["self"] (ad cg):=mkS;refine F.oks sc λH Q hr h=>?_;obtain⟨a,b,rfl,ha,⟨es,rfl⟩,hok,q⟩:=h;obtain⟨dx,l,e,hl⟩:=ha;refine ap (xb1 (xret (xtup (xac xstr (xac (xcd DZ hr (xac (xfld (xv 0)) xa0)) xa0))))) ?_;refine⟨_,rfl,a,_,dx,_,_,rfl,e,T.u31.cls,T.g34,rfl,l,es,rfl,hl,hok.1,hok.2,λr H1 s1 d1=>⟨bg2,λt ht=>?_⟩⟩;obtain⟨a1,a2⟩:=cJ s1 ht (.cons (dn_k (k:="list")) (.cons d1 .nil));exact q _ _ a1 a2
abbrev lG:Stmt:=top 70
def kq {k n:Nat}(F:Fun K "told_entries" "told_entries" lG f fd)(hM:MV P w K mg base k "told" (EAt c n) (OkE n) (tellsB (dE n))):FnOk P w K mg base CX0 (k+1) f fd ["entries"] (spTEs c n):=by
 have sc:FnScope ["entries"] ["entries"] (ad lG):=mkS;refine F.oks sc λH Q hr h=>?_;obtain⟨l,es,rfl,⟨as,el,hls⟩,hl,hok,q⟩:=h;refine ap (xb1 (xret (xlc0 (own:=["entry"])
  (xil (xv 0))
  (λ_ _ _ _=>xgm (i:=0) (show (["entry"]:List Str).Nodup by decide)) (λ_ _ _ _=>xq0) (λ_ _ _ _=>(se (k:=k) (xv 0) hr.mono))))) ?_
 have w6:=hls.len;refine⟨_,rfl,l,rfl,⟨_,SqL.of el⟩,?_⟩;refine cW (λi=>((es[i]?).map (dE n)).getD .none) (SqL.of el) (by rw[l0];omega) ?_ ?_
 ·intro i x hx H2 s2 C N hC;obtain⟨a,e,rfl,hei,_,ha⟩:=hls.get hx;obtain⟨Cc,dx,fs,sp,e1,e2,V,hsp⟩:=hM e (hok e (l16 hei)) H2 a (eH n _ _ _ _ s2 ha);refine⟨(nfLe.refl _ _ _).set ∅ _,iteT (B:=N H2) ⟨_,rfl,a,Cc,dx,fs,_,sp,rfl,e1,e2,V,hsp _ _ λv H4 ⟨s4,d4⟩=>hC v H4 s4 ?_⟩⟩;rw[hei];exact d4
 ·intro D H2 hD s2 dD;rw[l0,w6,bd] at dD;exact q D H2 s2 dD
def kr {k n:Nat}(F:Fun K "told" "Entry.told" dg f fd)(T:TxB K mg c BT)(Dc:Def P w K mg base 4 "told_parts" ["parts"] (spTolds c.cp R2))(DZ:Def P w K mg base k "told_entries" ["entries"] (spTEs c n)):FnOk P w K mg base CX0 (k+5) f fd ["self"] (spTE c (n+1)):=by
 have sc:FnScope ["self"] ["self"] (ad dg):=mkS;refine F.oks sc λH Q hr h=>?_;obtain⟨a,en,rfl,⟨dx,lp,le,e,⟨as,el,hps⟩,hle⟩,⟨y6,hl,hw⟩,q⟩:=h;refine ap (xb1 (xret (xtup (xac (xfld (xv 0)) (xac (xcd Dc hr (xac (xfld (xv 0)) xa0)) (xac (xcd DZ hr (xac (xfld (xv 0)) xa0)) xa0)))))) ?_;refine⟨_,rfl,a,_,dx,_,_,rfl,e,T.q14.cls,T.z33,rfl,_,rfl,a,_,dx,_,_,rfl,e,T.q14.cls,T.q33,rfl,lp,as,_,rfl,el,hps,y6.r2,by rw[hps.len];have:=y6.len;omega,λr H1 s1 d1=>?_⟩;refine⟨_,rfl,a,_,dx,_,_,rfl,s1 _ _ e,T.q14.cls,T.u34,rfl,le,_,rfl,hle.same (eH n) s1,hl,hw,λr2 H2 s2 d2=>⟨bg3,λt ht=>?_⟩⟩;have hsg:∀b:Bool,Asc (kl b)/\(kl b).length<=1000:=λb=>by cases b <;> exact⟨tM _ rfl,by decide⟩
 obtain⟨a1,a2⟩:=cJ (s1.trans s2) ht (.cons (dn_S (hsg _)) (.cons (d1.same (av (Same.refl _) s2)) (.cons (d2.same (av s1 (Same.refl _))) .nil)));exact q _ _ a1 a2
abbrev pY:Stmt:=top 76
def sy (F:Fun K "told_cells" "told_cells" pY f fd)(Dc:Def P w K mg base 4 "told_parts" ["parts"] (spTolds c.cp R2)):FnOk P w K mg base CX0 5 f fd ["cells"] (spTC c):=by
 have sc:FnScope ["cells"] ["cells"] (ad pY):=mkS;refine F.oks sc λH Q hr h=>?_;obtain⟨l,cs,rfl,⟨as,el,hls⟩,hok,q⟩:=h;refine ap (xb1 (xret (xlc0 (own:=["cell"])
  (xil (xv 0))
  (λ_ _ _ _=>xgm (i:=0) (show (["cell"]:List Str).Nodup by decide)) (λ_ _ _ _=>xq0) (λ_ _ _ _=>(xcd Dc hr (xac (xv 0) xa0)))))) ?_
 have w6:=hls.len;have hl:=hok.1;refine⟨_,rfl,l,rfl,⟨_,SqL.of el⟩,?_⟩;refine cW (λi=>((cs[i]?).map λps=>PyData.list (ps.map dP)).getD .none) (SqL.of el) (by rw[l0];omega) ?_ ?_
 ·intro i x hx H2 s2 C N hC;obtain⟨a,ps,rfl,hei,_,as2,e2,hps⟩:=hls.get hx;have y6:=hok.2 ps (l16 hei);refine⟨(nfLe.refl _ _ _).set ∅ _,iteT (B:=N H2) ⟨_,rfl,a,as2,ps,rfl,s2 _ _ e2,hps.same s2,y6.r2,by rw[hps.len];have:=y6.len;omega,λr H4 s4 d4=>hC _ H4 s4 ?_⟩⟩;rw[hei];exact d4
 ·intro D H2 hD s2 dD;rw[l0,w6,bd] at dD;exact q D H2 s2 dD
def kt {k:Nat}(F:Fun K "told" "Quote.told" df f fd)(T:TxB K mg c BT)(hM:MV P w K mg base k "told" R ok (tellsB fB))(mR:MoR R):FnOk P w K mg base CX0 (k+1) f fd ["self"] (spTB c R fB ok λb=>∃bs,b = .quote bs):=by
 have sc:FnScope ["self"] ["self"] (ad df):=mkS;refine F.oks sc λH Q hr h=>?_;obtain⟨a,b,rfl,ha,⟨bs,rfl⟩,hok,q⟩:=h;obtain⟨dx,l,e,as,el,hls⟩:=ha;refine ap (xb1 (xret (xtup (xac xstr (xac (xlc0 (own:=["block"])
  (xil (xfld (xv 0)))
  (λ_ _ _ _=>xgm (i:=0) (show (["block"]:List Str).Nodup by decide)) (λ_ _ _ _=>xq0) (λ_ _ _ _=>(se (k:=k) (xv 0) hr.mono))) xa0))))) ?_
 have w6:=hls.len;have hl:=hok.1;refine⟨_,rfl,a,_,dx,_,_,rfl,e,T.q30.cls,T.g32,rfl,l,rfl,⟨_,SqL.of el⟩,?_⟩;refine cW (λi=>((bs[i]?).map fB).getD .none) (SqL.of el) (by rw[l0];omega) ?_ ?_
 ·intro i x hx H2 s2 C N hC;obtain⟨a,b,rfl,hei,_,ha⟩:=hls.get hx;obtain⟨Cc,dx,fs,sp,e1,e2,V,hsp⟩:=hM b (hok.2 b (l16 hei)) H2 a (mR _ _ _ _ s2 ha);refine⟨(nfLe.refl _ _ _).set ∅ _,iteT (B:=N H2) ⟨_,rfl,a,Cc,dx,fs,_,sp,rfl,e1,e2,V,hsp _ _ λv H4 ⟨s4,d4⟩=>hC v H4 s4 ?_⟩⟩;rw[hei];exact d4
 ·intro D H2 hD s2 dD;rw[l0,w6,bd] at dD;refine⟨bg2,λt ht=>?_⟩;obtain⟨a1,a2⟩:=cJ s2 ht (.cons (dn_k (k:="quote")) (.cons dD .nil));exact q _ _ a1 a2
def ku (F:Fun K "told" "Table.told" di f fd)(T:TxB K mg c BT)(DF:Def P w K mg base 5 "told_cells" ["cells"] (spTC c)):FnOk P w K mg base CX0 6 f fd ["self"] (spTB c R fB ok λb=>∃hd sd ls,b = .table hd sd ls):=by
 have sc:FnScope p14 ["self"] (ad di):=mkS;refine F.oks sc λH Q hr h=>?_;obtain⟨a,b,rfl,ha,⟨hd,sd,ls,rfl⟩,hok,q⟩:=h;obtain⟨dx,lh,lsd,ll,e,hh,es,as,el,hls⟩:=ha;refine ap (xbc (rO (i:=1) (own:=["line"]) sc.nd
  (xil (xfld (xv 0)))
  (λ_ _ _ _=>xgm (i:=0) (show (["line"]:List Str).Nodup by decide)) (λ_ _ _ _=>xq0) (λ_ _ _ _=>(xcd DF hr (xac (xv 0) xa0))))
  (xb1 (xret (xtup (xac xstr (xac (xcd DF hr (xac (xfld (xv 0)) xa0)) (xac (xcTy aD T.g10 rfl (xac (xfld (xv 0)) xa0)) (xac (xv 1) xa0)))))))) ?_
 rw[xO];have w6:=hls.len;obtain⟨ok1,ok2,ok3,ok4⟩:=hok;refine⟨_,rfl,a,_,dx,_,_,rfl,e,T.u15.cls,T.u35,rfl,ll,rfl,⟨_,SqL.of el⟩,?_⟩;refine cW (λi=>((ls[i]?).map dt).getD .none) (SqL.of el) (by rw[l0];omega) ?_ ?_
 ·intro i x hx H2 s2 C N hC;obtain⟨a,l,rfl,hei,_,ha⟩:=hls.get hx;refine⟨(nfLe.refl _ _ _).set ∅ _,iteT (B:=N H2) ⟨_,rfl,a,l,rfl,pV fI _ _ _ _ s2 ha,ok4 l (l16 hei),λr H4 s4 d4=>hC _ H4 s4 ?_⟩⟩;rw[hei];exact d4
 ·intro D H1 hD s1 d1;rw[l0,w6,bd] at d1
  left
  have hsd:∀b:Bool,Asc (bH b)/\(bH b).length<=1000:=λb=>by cases b <;> exact⟨tM _ rfl,by decide⟩
  refine⟨_,rfl,a,_,dx,_,_,rfl,s1 _ _ e,T.u15.cls,T.z34,rfl,lh,hd,rfl,hh.same fI s1,ok1,λr2 H2 s2 d2=>?_⟩;refine⟨_,rfl,a,_,dx,_,_,rfl,s2 _ _ (s1 _ _ e),T.u15.cls,T.q34,rfl,lsd,_,rfl, .inl (SqL.of (s2 _ _ (s1 _ _ es))),λp hp=>⟨_,rfl,bg4,λt ht=>?_⟩⟩;obtain ⟨b1, b2⟩ := pX (s1.trans s2) hp (ds := sd.map fun b => PyData.str (S (bH b))) (xs := sd.map fun b => vS (bH b)) (by
   have:=nP (G:=dif H H2) (ls:=sd.map bH) (λl hl=>by obtain⟨b,_,rfl⟩:=l20.mp hl;exact hsd b);rw[l19,l19] at this;exact this) (by rw[l0];omega)
  have sp:=ac hp (.lst (sd.map λb=>vS (bH b)));obtain⟨a1,a2⟩:=cJ b1 ht (.cons (dn_k (k:="table")) (.cons (d2.same (av s1 sp)) (.cons b2 (.cons (d1.same (av (Same.refl _) (s2.trans sp))) .nil))));exact q _ _ a1 a2
end
end K15
namespace Lw
open PySem L2 Lm
open Classical in
def srtQ (q:Bool)(r:List Nat):Srt:=match aL r with
 | .quote x=>if q then .quote x else .plain 0 (bR r)
 |s=>s
def aY (q:Bool):List (List Nat)->Srt
 | [] => .empty
 |r::_=>srtQ q r
def tkW {α:Type}(f:Srt->Option α)(q:Bool):List (List Nat)->List α
 | []=>[]
 |r::rs=>match f (srtQ q r) with
  |some x=>x::tkW f q rs
  |none=>[]
def ba:Srt->Option (List Nat)
 | .plain _ w=>some w
 |_=>none
def cM:Srt->Option (List Nat)
 | .plain far w=>if 1<=far then some w else none
 |_=>none
def fJ:Srt->Option (List Nat)
 | .quote x=>some x
 |_=>none
def dm:Srt->Option (List (List Nat))
 | .cells ts=>some ts
 |_=>none
def litR:List (List Nat)->List (List Nat)×Nat
 | []=>([],0)
 |r::rs=>if bJ (aL r)=cq then ([],1) else (r::(litR rs).1,(litR rs).2+1)
abbrev Itm:=Nat×Nat×List Nat
def bo (q:Bool)(rs:List (List Nat)):List (List Nat):=tkW cM q (rs.drop 1)
def itR (q:Bool):Nat->List (List Nat)->List Itm×Nat
 |0,_=>([],0)
 |k+1,rs=>match aY q rs with
  | .item far sg w=>((far,sg,ao [32] (w::bo q rs))::(itR q k (rs.drop (1+(bo q rs).length))).1,1+(bo q rs).length+(itR q k (rs.drop (1+(bo q rs).length))).2)
  |_=>([],0)
def lvl (first pv far:Nat):Nat:=min (min ((far - first) / 2) 5) pv
def lvR (first:Nat):Nat->List Itm->List Itm
 |_,[]=>[]
 |pv,x::r=>(lvl first pv x.1,x.2.1,x.2.2)::lvR first (lvl first pv x.1+1) r
def lvs (its:List Itm):List Itm:=lvR ((its.head?.map (·.1)).getD 0) 0 its
def entF {β:Type}(j5:List Itm->List β×Nat)(lv:Nat):Nat->List Itm->List (EnF β)×Nat
 |0,_=>([],0)
 |_+1,[]=>([],0)
 |k+1,x::r=>if lv<=x.1 then (⟨decide (x.2.1=43),aS x.2.2,(j5 r).1⟩::(entF j5 lv k (r.drop (j5 r).2)).1,1+(j5 r).2+(entF j5 lv k (r.drop (j5 r).2)).2) else ([],0)
def entR:(n:Nat)->List Itm->List (En n)×Nat
 |0,_=>([],0)
 |n+1,its=>entF (entR n) (5 - n) its.length its
def bL (ls:List (List (List Nat))):Nat:=(ls.map List.length).foldr max 0
def be (m:Nat)(ts:List (List Nat)):List (List PC):=(ts++List.replicate (m - ts.length) []).map aS
def isR (t:List Nat):Bool:=decide (t.getLast? = some 58)
def tblR {β:Type}(ls:List (List (List Nat))):BkF β:=
 if ls.length < 2 ∨ (ls.getD 1 []).all b5=false then .table [] [] (ls.map (be (bL ls)))
 else .table (be (bL ls) (ls.getD 0 [])) ((ls.getD 1 []).map isR++List.replicate (bL ls - (ls.getD 1 []).length) false) ((ls.drop 2).map (be (bL ls)))
def rdF {β:Type}(q:Bool)(j5:List (List Nat)->List β)(rs:List (List Nat)):BkF β×Nat:=match aY q rs with
 | .heading lv w=>(.heading lv (aS w),1)
 | .name n t=>(.name n t,1)
 | .note n w=>(.note n (aS (ao [32] (w::bo q rs))),1+(bo q rs).length)
 | .fence=>(.lit (litR (rs.drop 1)).1,1+(litR (rs.drop 1)).2)
 | .quote _=>(.quote (j5 (tkW fJ q rs)),(tkW fJ q rs).length)
 | .cells _=>(tblR (tkW dm q rs),(tkW dm q rs).length)
 | .item _ _ _=>(.lst (entR 6 (lvs (itR q rs.length rs).1)).1,(itR q rs.length rs).2)
 |_=>(.para (aS (ao [32] (tkW ba q rs))),(tkW ba q rs).length)
def emp (r:List Nat):Bool:=decide (bJ (aL r)=mE)
def blkR {β:Type}(rd:List (List Nat)->β×Nat):Nat->Nat->List (List Nat)->List (β×Nat×Nat)
 |0,_,_=>[]
 |_+1,_,[]=>[]
 |k+1,p,r::rs=>if emp r then blkR rd k (p+1) rs else ((rd (r::rs)).1,p,p+(rd (r::rs)).2)::blkR rd k (p+(rd (r::rs)).2) ((r::rs).drop (rd (r::rs)).2)
def rd:(n:Nat)->List (List Nat)->Bl n×Nat
 |0,rs=>rdF false (λ_=>([]:List Empty)) rs
 |n+1,rs=>rdF true (λxs=>(blkR (rd n) xs.length 0 xs).map (·.1)) rs
def blks (n:Nat)(rs:List (List Nat)):List (Bl n×Nat×Nat):=blkR (rd n) rs.length 0 rs
structure SmR (rs:List (List Nat)):Prop where
 sum:(rs.map λr=>r.length+1).sum<=900
 asc:∀r∈rs,Asc r
def pZ:∀{rs:List (List Nat)} {r:List Nat},r∈rs->r.length+1<=(rs.map λr=>r.length+1).sum
 |x::xs,r,h=>by
  rw[l12,l24];rcases l9.mp h with z |z
  ·rw[z];omega
  ·have:=pZ z;omega
theorem fm:∀rs:List (List Nat),rs.length<=(rs.map λr=>r.length+1).sum
 | []=>l5 _
 |x::xs=>by have:=fm xs;rw[l12,l24,l4];omega
def SmR.row {rs:List (List Nat)}{r:List Nat}(h:SmR rs)(m:r∈rs):r.length<=900:=by have:=pZ m;have:=h.sum;omega
def SmR.len {rs:List (List Nat)}(h:SmR rs):rs.length<=900:=l11 (fm rs) h.sum
def SmR.drop {rs : List (List Nat)} (h : SmR rs) (i : Nat) : SmR (rs.drop i) := ⟨by
 have e:=congrArg (λl:List (List Nat)=>(l.map λr=>r.length+1).sum) (l56 i rs);simp only[l15,l85] at e;have:=h.sum;omega,λr hr=>h.asc r (l58 hr)⟩
def nQ {s:Srt}(h:bJ s=cn):∃x,s = .quote x:=by cases s <;> first |exact⟨_,rfl⟩ |cases h
def nR {s:Srt}(h:bJ s=gu):∃k x,s = .plain k x:=by cases s <;> first |exact⟨_,_,rfl⟩ |cases h
def nS {s:Srt}(h:bJ s=fD):∃x,s = .cells x:=by cases s <;> first |exact⟨_,rfl⟩ |cases h
def kv {s:Srt}(h:bJ s=k0):∃a b x,s = .item a b x:=by cases s <;> first |exact⟨_,_,_,rfl⟩ |cases h
section
variable {α:Type}{f:Srt->Option α}{q:Bool}{rs rs':List (List Nat)}{i:Nat}
def ji:aY q (rs.drop i)=match rs[i]? with |none => .empty |some r=>srtQ q r:=by
 by_cases h:i < rs.length
 ·rw[l28 h,List.getElem?_eq_getElem h];rfl
 ·rw[l41 nofun,List.getElem?_eq_none nofun];rfl
def qa (h0:f .empty=none){x:α}(h:f (aY q (rs.drop i))=some x):i < rs.length/\tkW f q (rs.drop i)=x::tkW f q (rs.drop (i+1)):=by
 by_cases hi:i < rs.length
 ·refine⟨hi,?_⟩;rw[l28 hi] at h ⊢;have h:f (srtQ q rs[i])=some x:=h;show (match f (srtQ q rs[i]) with |some x=>x::tkW f q (rs.drop (i+1)) |none=>[])=_;rw[h]
 ·rw[l41 nofun] at h;rw[show aY q []=Srt.empty from rfl,h0] at h;cases h
def gF (h:f (aY q rs)=none):tkW f q rs=[]:=by
 cases rs with
 |nil=>rfl
 |cons r rs=>
  have h:f (srtQ q r)=none:=h;show (match f (srtQ q r) with |some x=>x::tkW f q rs |none=>[])=_;rw[h]
def fo {r:List Nat}{x:α}(h:f (srtQ q r)=some x):tkW f q (r::rs)=x::tkW f q rs:=by
 show (match f (srtQ q r) with |some x=>x::tkW f q rs |none=>[])=_;rw[h]
theorem ip:∀rs:List (List Nat),(tkW f q rs).length<=rs.length
 | []=>l5 _
 |r::rs=>by
  have:=ip rs;show (match f (srtQ q r) with |some x=>x::tkW f q rs |none=>[]).length<=_;split
  ·rw[l4,l4];omega
  ·exact l10 _
theorem mO {x:α}:∀{rs:List (List Nat)},x∈tkW f q rs->∃r∈rs,f (srtQ q r)=some x
 | [],h=>nomatch h
 |r::rs,h=>by
  have h:x∈(match f (srtQ q r) with |some x=>x::tkW f q rs |none=>[]):=h;split at h
  ·rename_i y e;rcases l9.mp h with z |z
   ·exact⟨r,l8,by rw[z];exact e⟩
   ·obtain⟨r',h1,h2⟩:=mO z;exact⟨r',l7 _ h1,h2⟩
  ·cases h
end
end Lw
namespace L2
open PySem PySem.Spec PyProof.Rows
section
variable {X:Cx}{pos:Pos}
def xbrk:XS X (.Break pos) sZ:=⟨rg⟩
def yo {x y z:V}{us:List Value}(r:Vals [x,y,z] us):∃u v w',us=[u,v,w']/\RelV x u/\RelV y v/\RelV z w':=by
 cases r with
 |cons r1 r2=>
  obtain⟨u,w',rfl,h1,h2⟩:=ut r2;exact⟨_,_,_,rfl,r1,h1,h2⟩
inductive R_call_min3 (xs:List V)(H:Hp)(Q:VK):Prop
 |mk (i j k)(_:xs=[.int i, .int j, .int k])(_:Q (.int (min (min i j) k)) H)
def ky (hc:X.calm=true):cQ X (.builtin "min") R_call_min3:=by
 intro w9 s σ H xs us Q I r h;obtain⟨a,b,c,rfl,q⟩:=h;obtain⟨_,_,_,rfl,⟨t,rfl⟩,⟨t',rfl⟩,⟨t'',rfl⟩⟩:=yo r;refine wpAny_with_toks (n:=1) I.tk (min_three_ints (I.ok.hd hc) λh' tk k htk=>⟨_,H,I.kept k htk,?_,q⟩);by_cases hba:b < a <;> by_cases hc1:c < b <;> by_cases hc2:c < a <;> simp only[hba,hc1,hc2,if_true,if_false] <;> first |exact⟨_,congrArg (λz=>Value.int z _) nofun⟩
end
def qb (n d i:Nat):HT.sIx n d (some (i:Int))=min i n:=by
 simp only[HT.sIx];rw[if_neg nofun,l36]
def kz (xs:List V)(a:Nat):cutV xs (some (a:Int)) none=xs.drop a:=by
 unfold cutV;rw[qb,show HT.sIx xs.length xs.length none=xs.length from rfl];by_cases h:a<=xs.length
 ·rw[l51 h,l39 (by rw[l13];omega)]
 ·rw[l72 nofun,l59,List.take_zero,l41 nofun]
def qd (xs:List V)(b:Nat):cutV xs none (some (b:Int))=xs.take b:=by
 unfold cutV;rw[qb,show HT.sIx xs.length 0 none=0 from rfl,List.drop_zero,Nat.sub_zero];by_cases h:b<=xs.length
 ·rw[l51 h]
 ·rw[l72 nofun,l39 nofun,l39 nofun]
end L2
namespace Lw
open PySem L2 Lm
def jj {K:Frag}{a:Addr}{xs:List V}{k:Nat}{fr:List Nat}{g:TG}{tt:TT}{te:TE}{σ:St}{H0:Hp}{Q:Addr->Hp->Prop}(ts:List (List Nat))(hx:SqL K H0 a xs)(w6:xs.length=ts.length)(hl:ts.length<=1000000)
  (ht:∀(i:Nat) x t,xs[i]? = some x->ts[i]? = some t->∀H',Same H0 H'->∀(C:V->Hp->Prop)(N:Hp->Prop),(∀H4,Same H' H4->C (vS t) H4) →
   g x (nfS k fr σ) H' λσ2 H2=>nfLe k fr σ σ2/\tt σ2 H2 λb H3=>if b=true then te σ2 H3 C else N H3)
  (hq:∀D H',H0 D=none->Same H0 H'->H' D=some (.lst (ts.map vS))->Q D H'):rLC k fr g tt te σ (Itl K a) H0 Q:=by
 intro D hD;refine⟨λi m acc H=>m=xs.length - i/\i<=xs.length/\Same H0 H/\H D=some (.lst acc)/\acc=(ts.take i).map vS,⟨xs.length,by simp,l10 _,ac hD _,aa,rfl⟩,?_⟩;rintro i m acc H ⟨rfl,hi,sm,hDa,rfl⟩;refine⟨hDa,?_⟩;by_cases hlt:i < xs.length
 ·refine .inr ⟨⟨xs,xs[i],sm.seq hx,by simp[hlt]⟩,λx H' y=>?_⟩;obtain⟨e,y⟩:=y;rw[e];have hti:ts[i]? = some ts[i]:=List.getElem?_eq_getElem nofun;refine ht i x _ (y xs (sm.seq hx)) hti _ sm _ _ λH4 s4=>?_;refine⟨s4 _ _ hDa,by rw[l0,l30,sizeLine_eq];omega,xs.length - (i+1),by omega,rfl,hlt,af hD (sm.trans s4),aa,?_⟩;rw[List.take_add_one,hti,l15];rfl
 ·have e:i=xs.length:=by omega
  subst e;refine .inl ⟨⟨xs,sm.seq hx,l5 _⟩,hq D H hD sm ?_⟩;rw[hDa,w6,l80]
end Lw
namespace K15
open PySem L2 Lm Lw
structure TxD (K:Frag)(mg:Str->Option Value)(c:Cb)(BT:Addr):Prop extends TxB K mg c BT where
 g15:∃t,mg "MOST_QUOTES"=some (.int 4 t)
 z15:∃t,mg "MOST_ENTRIES"=some (.int 6 t)
 u11:mg "min"=none
 z11:mg "max"=none
def eM {a b:Prop} [Decidable a] [Decidable b](h:a ↔ b):V.bl (decide a)=V.bl (decide b):=congrArg V.bl (decide_eq_decide.mpr h)
section
variable {K:Frag}{σ:St}{H:Hp}{p:Addr}{s:Srt}
def aF {k:Nat}{x:Str}(w:List Nat)(hσ:σ[k]? = some (some (.ref p)))(hp:SrtAt K H p s)(hw:V.str x=vS w:=by rfl):Tells (tTest (tOp rEq (tOp (rIxT K) (tVar k) (tC (.int 0))) (tC (.str x)))) σ H (decide (bJ s=w)):=λR h=>by
 obtain⟨ys,ep,_,_⟩:=hp.parts;refine⟨_,hσ,p,_,0,_,rfl,rfl,SqT.of ep,am (j:=0) rfl,rfl,_,rfl,?_⟩;have e:decide (vS (bJ s)=V.str x)=decide (bJ s=w):=by rw[hw];exact decide_eq_decide.mpr ⟨λz=>fH (V.str.inj z),λz=>by rw[z]⟩
 rw[e];exact h H (Same.refl H)
end
section
variable {c:Cb}{BT:Addr}
abbrev qe:Stmt:=top 84
inductive spEmpty (vs:List V)(H:Hp)(Q:VK)(u3:XK):Prop
 |mk (l:List Nat)(_:vs=[vS l])(_:l.length<=1000000)(_:∀H',Same H H'->Q (.bl (emp l)) H')
def sC (F:Fun K "is_empty" "is_empty" qe f fd)(Dh:Def P w K mg base 4 "sort_of" ["row"] (spSort K)):FnOk P w K mg base CX0 5 f fd ["row"] spEmpty:=by
 have sc:FnScope ["row"] ["row"] (ad qe):=mkS;refine F.oks sc λH Q hr h=>?_;obtain⟨l,rfl,hl,q⟩:=h;refine ap (xb1 (xret (xcmp bx (xix aB (xcd Dh hr (xac (xv 0) xa0)) xint (λ_ _=>rfl)) xstr (al _)))) ?_;refine⟨_,rfl,l,rfl,hl,λp H1 s1 hp=>?_⟩;obtain⟨ys,ep,_,_⟩:=hp.parts;refine⟨p,_,0,_,rfl,rfl,SqT.of ep,am (j:=0) rfl,rfl,?_⟩;have e:decide (vS (bJ (aL l))=V.str (Str.ofString "empty"))=emp l:=decide_eq_decide.mpr ⟨λz=>fH (V.str.inj z),λz=>by rw[z];rfl⟩;rw[e];exact q H1 s1
abbrev lH:Stmt:=top 86
inductive spSortAt (K:Frag)(vs:List V)(H:Hp)(Q:VK)(u3:XK):Prop
 |mk (l:Addr)(rs:List (List Nat))(i d:Nat)(_:vs=[.ref l, .int i, .int d])(_:H l=some (.lst (rs.map vS)))(_:SmR rs)(_:∀p H',Same H H'->SrtAt K H' p (aY (decide (d < 4)) (rs.drop i))->Q (.ref p) H')
def qf {q:Bool}{r:List Nat}(h:bJ (aL r)≠cn):srtQ q r=aL r:=by
 unfold srtQ;split
 ·rename_i e;rw[e] at h;exact absurd rfl h
 ·rfl
def xh {r:List Nat}:srtQ true r=aL r:=by
 unfold srtQ;split
 ·rename_i e;rw[e];rfl
 ·rfl
def tP {r:List Nat}(h:bJ (aL r)=cn):srtQ false r = .plain 0 (bR r):=by
 obtain⟨x,e⟩:=nQ h;unfold srtQ;rw[e];rfl
def qg (F:Fun K "sort_at" "sort_at" lH f fd)(T:TxD K mg c BT)(Dh:Def P w K mg base 4 "sort_of" ["row"] (spSort K))(Df:Def P w K mg base 2 "tidy" ["text"] spTidy):FnOk P w K mg base CX0 5 f fd p5 (spSortAt K):=by
 have sc:FnScope ["rows","place","deep","sort"] p5 (ad lH):=mkS;refine F.oks sc λH Q hr h=>?_;obtain⟨l,rs,i,d,rfl,el,hok,q⟩:=h;refine ap (xbc (xif (ay oB (xv 1) (xcB aj T.u10 PySem.boot_len (xac (xv 0) xa0)) (al _)) (xb1 (xret (xtup (xac xstr xa0)))) xb0)
  (xbc (xst (i:=3) sc.nd (xcd Dh hr (xac (xix ax (xv 0) (xv 1) (λ_ _=>rfl)) xa0)))
  (xbc (xif (xand (ay bx (xix aB (xv 3) xint (λ_ _=>rfl)) xstr (al _)) (gW (ay oB (xv 2) (xgI T.g15) (al _)))).xt (xb1 (xret (xtup (xac xstr (xac xint (xac (xcd Df hr (xac (xix ax (xv 0) (xv 1) (λ_ _=>rfl)) xa0)) xa0)))))) xb0)
  (xb1 (xret (xv 3)))))) ?_
 rw[wu];have w6:=cX (K:=K) (σ:=[some (.ref l),some (.int i),some (.int d),none]) (H:=H) (ta:=tVar 0) (ev_v rfl) (.inl (SqL.of el));refine s_if (decide (rs.length<=i)) (cR (ev_v rfl) w6 (eM (by rw[l0];omega))) (λH1 s1 z=>?_) λH1 s1 z=>?_
 ·have hi:=of_decide_eq_true z;refine⟨bg1,λt ht=>q t _ (s1.trans (ac ht _)) ?_⟩;rw[l41 hi];exact aa
 have hi:i < rs.length:=by have:=of_decide_eq_false z;omega
 have hrm:=l43 hi;have er:aY (decide (d < 4)) (rs.drop i)=srtQ (decide (d < 4)) rs[i]:=by rw[l28 hi];rfl
 rw[er] at q;have hat:(rs.map vS)[i]? = some (vS rs[i]):=by rw[List.getElem?_map,List.getElem?_eq_getElem hi];rfl
 generalize rs[i]=r at hrm q hat;have hrl:r.length<=1000000:=by have:=hok.row hrm;omega
 refine⟨_,rfl,_,rfl,l,_,(i:Int),_,rfl,rfl,SqL.of (s1 _ _ el),am (j:=i) hat,r,rfl,hrl,λp H2 s2 hp=>?_⟩
 left
 have s12:=s1.trans s2;refine s_if (decide (bJ (aL r)=cn)&&decide (4<=d)) (dk _ _ (aF cn rfl hp) λ_ H3 s3=>cR (ev_v rfl) ev_c (eM nofun)) (λH3 s3 z=>?_) λH3 s3 z=>?_
 ·rw[Bool.and_eq_true] at z;have hd:=of_decide_eq_true z.2;rw[decide_eq_false (show ¬ d < 4 by omega),tP (of_decide_eq_true z.1)] at q;refine⟨_,rfl,_,rfl,l,_,(i:Int),_,rfl,rfl,SqL.of ((s12.trans s3) _ _ el),am (j:=i) hat,r,rfl,hrl,λH4 s4=>⟨bg3,λt ht=>q t _ (((s12.trans s3).trans s4).trans (ac ht _)) aa⟩⟩
 ·refine⟨_,rfl,q p H3 (s12.trans s3) (hp.same s3|>λh=>?_)⟩;by_cases hd:d < 4
  ·rw[decide_eq_true hd,xh];exact h
  ·rw[qf]
   ·exact h
   ·intro y;rw[decide_eq_true y,decide_eq_true (show 4<=d by omega)] at z;cases z
end
def Zp {α:Type}(R:V->α->Prop)(vs:List V)(as:List α):Prop:=∃zs:List (V×α),vs=zs.map (·.1)/\as=zs.map (·.2)/\∀z∈zs,R z.1 z.2
section
variable {α:Type}{R R':V->α->Prop}{vs:List V}{as:List α}
def Zp.mono (h:Zp R vs as)(k:∀v a,v∈vs->R v a->R' v a):Zp R' vs as:=let ⟨zs,a,b,d⟩:=h;⟨zs,a,b,λz hz=>k _ _ (by rw[a];exact l86 hz) (d z hz)⟩
def Zp.snoc {v : V} {a : α} (h : Zp R vs as) (k : R v a) : Zp R (vs ++ [v]) (as ++ [a]) := let ⟨zs, x, y, d⟩ := h; ⟨zs++[(v,a)],by rw[x,l15];rfl,by rw[y,l15];rfl,λz hz=>by
 rcases l21.mp hz with z' |z'
 ·exact d z z'
 ·rw[l14.mp z'];exact k⟩
def Zp.nil:Zp R [] []:=⟨[],rfl,rfl,λ_ z=>nomatch z⟩
def Zp.len (h:Zp R vs as):vs.length=as.length:=let ⟨zs,x,y,d⟩:=h;by rw[x,y,l0,l0]
def Zp.one (h:Zp R vs as){v:V}(hv:v∈vs):∃a,R v a:=let ⟨zs,x,y,d⟩:=h;by
 rw[x] at hv;obtain⟨z,hz,rfl⟩:=l20.mp hv;exact⟨_,d z hz⟩
end
def Zp.strs {vs:List V}{as:List (List Nat)}(h:Zp (λv w=>v=vS w) vs as):vs=as.map vS:=let ⟨zs,x,y,d⟩:=h;by
 rw[x,y,l19];exact l50 λz hz=>d z hz
section
variable {K:Frag}{α:Type}{f:Srt->Option α}{Rl:Hp->V->α->Prop}{tt:TT}{k:Int}{σt:St}{l:Addr}{rs:List (List Nat)}{i d:Nat}{D:Ends}{u:TS}{H0:Hp}
def jk {Pr:Srt->Prop}(hPr:∀j,Pr (aY (decide (d < 4)) (rs.drop j)))(h0:f .empty=none)(ht:∀σ H p s,σ[4]? = some (some (.ref p))->SrtAt K H p s->Tells tt σ H (f s).isSome)
  (hk:∀H p s a,Pr s->SrtAt K H p s->f s=some a->∃ys v,H p=some (.tup ys)/\atI ys k=some v/\Rl H v a)(mo:∀H H' v a,Same H H'->Rl H v a->Rl H' v a)
  (up:∀H X vs v v' a a',H X=some (.lst vs)->(∀x∈vs,∃b,Rl H x b)->Rl H v a->Rl H v' a'->Rl (upd H X (.lst (vs++[v]))) v' a')(el:H0 l=some (.lst (rs.map vS)))(hok:SmR rs)
  (q:∀X p vs H',Same H0 H'->H0 X=none->H' X=some (.lst vs)->Zp (Rl H') vs (tkW f (decide (d < 4)) (rs.drop i))->u D (some (.ref l)::some (.int i)::some (.int d)::some (.ref X)::some (.ref p)::σt) H'):
  tSeq (tAsg (tLst tNil) (ah 3)) (tSeq (tAsg (tCall (spSortAt K) [] E0 (tCons (tVar 0) (tCons (tVar 1) (tCons (tVar 2) tNil)))) (ah 4)) (tSeq (tWhile tt (tSeq (tDrop (tBM K "list" rAppend (tVar 3) (tCons (tOp (rIxT K) (tVar 4) (tC (.int k))) tNil)))
   (tAsg (tCall (spSortAt K) [] E0 (tCons (tVar 0) (tCons (tOp (rI0 λi j=>V.int (i+j)) (tVar 1) (tCB (R_call_len_seq K) (tCons (tVar 3) tNil))) (tCons (tVar 2) tNil)))) (ah 4)))) u)) D (some (.ref l)::some (.int i)::some (.int d)::none::none::σt) H0:=by
 refine⟨bg0,λX hX=>?_⟩;have s1:=ac hX (.lst []);have e1:upd H0 X (.lst []) X=some (.lst []):=aa
 left
 generalize upd H0 X (.lst [])=H1 at s1 e1 ⊢;refine⟨_,rfl,_,rfl,_,rfl,l,rs,i,d,rfl,s1 _ _ el,hok,λp H2 s2 hp=>?_⟩
 left
 refine cA (λm σ H=>∃(p:Addr) (vs:List V) (as:List α),σ=some (.ref l)::some (.int i)::some (.int d)::some (.ref X)::some (.ref p)::σt/\Same H0 H/\H X=some (.lst vs)/\Zp (Rl H) vs as/\SrtAt K H p (aY (decide (d < 4)) (rs.drop (i+as.length)))/\as++tkW f (decide (d < 4)) (rs.drop (i+as.length))=tkW f (decide (d < 4)) (rs.drop i)/\m=rs.length - (i+as.length)) (rs.length - i) ⟨p,[],[],rfl,s1.trans s2,s2 _ _ e1,Zp.nil,hp,rfl,rfl⟩ ?_;rintro m σ H ⟨p,vs,as,rfl,sH,eX,hz,hp,hrun,rfl⟩;refine⟨_,ht _ _ p _ rfl hp,λz H' s'=>?_,λz H' s'=>?_⟩
 ·obtain⟨a,ha⟩:=l77.mp z;obtain⟨hlt,hstep⟩:=qa h0 ha;obtain⟨ys,v,ep,ev,hv⟩:=hk H p _ a (hPr _) hp ha;rw[hstep] at hrun;have eX':=s' _ _ eX;have w6:=ip (f:=f) (q:=decide (d < 4)) (rs.drop i);have hvl:=hz.len;have hasl:as.length<=1000:=by
   have:=congrArg List.length hrun;rw[l6] at this;rw[l13] at w6;have:=hok.len;omega
  refine⟨_,rfl, .inl ⟨rfl,_,SqL.of eX'⟩,_,rfl,p,ys,k,v,rfl,rfl,SqT.of (s' _ _ ep),ev,X,_,v,rfl,rfl,eX',by rw[sizeLine_eq];omega,?_⟩;have hz':Zp (Rl H') vs as:=hz.mono λx b _ hb=>mo _ _ _ _ s' hb;have hv':=mo _ _ _ _ s' hv;have sU:Same H0 (upd H' X (.lst (vs++[v]))):=af hX (sH.trans s');refine⟨_,rfl,_,rfl,_,rfl,X,vs++[v],rfl, .inl (SqL.of aa),_,_,rfl,rfl,_,rfl,l,rs,i+(as.length+1),d,?_,sU _ _ el,hok,λp2 H3 s3 hp2=>?_⟩
  ·rw[l6,hvl];rfl
  left
  refine⟨_,(show rs.length - (i+(as.length+1)) < rs.length - (i+as.length) by omega),p2,vs++[v],as++[a],rfl,sU.trans s3,s3 _ _ aa,?_,?_,?_,?_⟩
  ·have j9:∀x∈vs,∃b,Rl H' x b:=λx hx=>hz'.one hx;exact((hz'.mono (R':=Rl (upd H' X (.lst (vs++[v])))) λx b _ hb=>up _ _ _ _ _ _ _ eX' j9 hv' hb).snoc (up _ _ _ _ _ _ _ eX' j9 hv' hv')).mono λx b _ hb=>mo _ _ _ _ s3 hb
  ·rw[l6];exact hp2
  ·rw[l6,l18];exact hrun
  ·rw[l6];rfl
 ·have hn:f (aY (decide (d < 4)) (rs.drop (i+as.length)))=none:=by simpa using z
  rw[gF hn,l17] at hrun;rw[<- hrun] at q;exact q X p vs H' (sH.trans s') hX (s' _ _ eX) (hz.mono λx b _ hb=>mo _ _ _ _ s' hb)
end
section
variable {c:Cb}{BT:Addr}
abbrev jl:Stmt:=top 87
inductive spFurther (vs:List V)(H:Hp)(Q:VK)(u3:XK):Prop
 |mk (l:Addr)(rs:List (List Nat))(i d:Nat)(_:vs=[.ref l, .int i, .int d])(_:H l=some (.lst (rs.map vS)))(_:SmR rs)(_:∀r H',Same H H'->H r=none->H' r=some (.lst ((tkW cM (decide (d < 4)) (rs.drop i)).map vS))->Q (.ref r) H')
def nU (F:Fun K "further_words" "further_words" jl f fd)(T:TxD K mg c BT)(Da:Def P w K mg base 5 "sort_at" p5 (spSortAt K)):FnOk P w K mg base CX0 6 f fd p5 spFurther:=by
 have sc:FnScope ["rows","place","deep","words","sort"] p5 (ad jl):=mkS;refine F.oks sc λ{_ _ _ s vs _}H Q hr h=>?_;obtain⟨l,rs,i,d,rfl,el,hok,q⟩:=h;refine ap (xbc (xst (i:=3) sc.nd (xlst xa0))
  (xbc (xst (i:=4) sc.nd (xcd Da hr (xac (xv 0) (xac (xv 1) (xac (xv 2) xa0)))))
  (xbc (cU PassesOwn.never (xand (ay bx (xix aB (xv 4) xint (λ_ _=>rfl)) xstr (al _)) (gW (ay oB (xix aB (xv 4) xint (λ_ _=>rfl)) xint (al _)))).xt
  (xbc (aZ (xmA (xv 3) (xac (xix aB (xv 4) xint (λ_ _=>rfl)) xa0)))
  (xb1 (xst (i:=4) sc.nd (xcd Da hr (xac (xv 0) (xac (xop au (xv 1) (xcB aj T.u10 PySem.boot_len (xac (xv 3) xa0))) (xac (xv 2) xa0))))))))
  (xb1 (xret (xv 3)))))) ?_
 refine jk (K:=K) (f:=cM) (Rl:=λ_ v w=>v=vS w) (l:=l) (rs:=rs) (i:=i) (d:=d) (σt:=[]) (Pr:=λ_=>True) (λ_=>trivial) rfl (λσ H p s hσ hp=>?_) (λH p s a _ hp ha=>?_) (λ_ _ _ _ _ h=>h) (λ_ _ _ _ _ _ _ _ _ _ h=>h) el hok λX p vs H' s' hX eX hz=>⟨_,rfl,q X H' s' hX (by rw[eX,hz.strs])⟩
 ·by_cases hk:bJ s=gu
  ·obtain⟨far,w,rfl⟩:=nR hk;refine Tells.eq (dk _ (decide (1<=far)) (aF gu hσ hp) λ_ H1 s1=>cR (λR k=>⟨_,hσ,p,_,1,_,rfl,rfl,SqT.of (s1 _ _ hp),am (j:=1) rfl,k⟩) ev_c (eM nofun)) ?_;show (decide _&&_)=(if 1<=far then some w else none).isSome;rw[decide_eq_true hk];by_cases h:1<=far
   ·rw[if_pos h,decide_eq_true h];rfl
   ·rw[if_neg h,decide_eq_false h];rfl
  ·refine Tells.eq (dk false false ((aF gu hσ hp).eq (decide_eq_false hk)) λz=>nomatch z) ?_;cases s <;> first |rfl |exact absurd rfl hk
 ·cases s with
  |plain far w=>
   have ha:(if 1<=far then some w else none)=some a:=ha;split at ha
   ·cases ha;exact⟨_,_,hp,am (j:=2) rfl,rfl⟩
   ·cases ha
  |_=>cases ha
end
end K15
namespace Lw
open PySem L2 Lm
def szP:Pc->Nat
 | .star=>2
 |p=>sPc p
def szQ:Qc->Nat
 | .txt l=>l.length
 | .part p=>szC p
def okQ:Qc->Prop
 | .txt l=>Asc l/\l≠[]
 | .part p=>OkC p
def smQ (qs:List Qc):Nat:=(qs.map szQ).sum
def vn (a b:List Qc):smQ (a++b)=smQ a+smQ b:=by unfold smQ;rw[l15,l85]
def tQ:∀(n:Nat) {s:List Nat},s.length<=n->Asc s->((aC s).map szP).sum<=21 * s.length/\∀p∈aC s,PcG p
 |n,[],_,_=>by rw[bO];exact⟨l5 _,λ_ z=>nomatch z⟩
 |0,x::s,h,_=>by simp at h
 |n+1,x::s,h,ha=>by
  obtain⟨p,r,e⟩:=ez (s:=x::s) (by simp);obtain⟨g1,g2,g3,g4⟩:=pU ha e;obtain⟨i1,i2⟩:=tQ n (s:=r) (by rw[l4] at g4 h;omega) g2;have hp:szP p+21 * r.length<=21 * (x::s).length:=by
   cases p with
   |star=>show 2+_<=_;omega
   |_=>exact g3
  rw[bW e];refine⟨by rw[l12,l24];omega,λq hq=>?_⟩;rcases l9.mp hq with z |z
  ·rw[z];exact g1
  ·exact i2 q z
def xj {p:Pc}(hg:PcG p):okQ (toQ p)/\szQ (toQ p)<=szP p:=by
 cases p with
 |sign c=>exact⟨⟨λx hx=>by rw[l14.mp hx];exact hg,by simp⟩,l5 _⟩
 |star=>exact⟨⟨by unfold Asc;decide,by simp⟩,by show 1<=2;decide⟩
 |code l=>exact⟨by show Asc (S l).cps.toList;rw[b7];exact hg.1,by show (S l).cps.toList.length+2<=l.length+2;rw[b7];exact l5 _⟩
 |note n=>exact⟨by show Asc (S n).cps.toList;rw[b7];exact hg.1,by show (S n).cps.toList.length+20<=n.length+20;rw[b7];exact l5 _⟩
 |link w n=>exact⟨by show Asc (S w).cps.toList/\Asc (S n).cps.toList;rw[b7,b7];exact⟨hg.1,hg.2.2.1⟩,by show (S w).cps.toList.length+(S n).cps.toList.length+20<=w.length+n.length+20;rw[b7,b7];exact l5 _⟩
def sD:∀(qs:List Qc) (sg:List (List Nat)),(∀q∈qs,okQ q)->(∀l∈sg,Asc l/\l≠[])->(∀p∈mgGo sg qs,OkC p)/\((mgGo sg qs).map szC).sum<=sg.flatten.length+smQ qs
 |qs,sg,hq,hs=>by
  have pl:(∀p∈bn sg,OkC p)/\((bn sg).map szC).sum<=sg.flatten.length:=by
   unfold bn;split
   ·exact⟨λ_ z=>(nomatch z),l10 _⟩
   ·rename_i hn;refine⟨λp hp=>?_,?_⟩
    ·rw[l14.mp hp];show Asc (S sg.flatten).cps.toList/\(S sg.flatten).cps.toList≠[];rw[b7];refine⟨λc hc=>?_,λz=>?_⟩
     ·obtain⟨l,h1,h2⟩:=List.mem_flatten.mp hc;exact(hs l h1).1 c h2
     ·cases sg with
      |nil=>exact hn rfl
      |cons l sg=>exact(hs l l8).2 (List.append_eq_nil_iff.mp z).1
    ·show (S sg.flatten).cps.toList.length+0<=_;rw[b7];exact l5 _
  cases qs with
  |nil=>exact⟨pl.1,pl.2⟩
  |cons q qs=>
   cases q with
   |txt l=>
    have hl:Asc l/\l≠[]:=hq _ l8;obtain⟨i1,i2⟩:=sD qs (sg++[l]) (λq h=>hq q (l7 _ h)) λx hx=>(l21.mp hx).elim (hs x) λz=>by rw[l14.mp z];exact hl
    refine⟨i1,l11 i2 ?_⟩;rw[List.flatten_append,l6];show _+(l++[]).length+_<=_+(l.length+smQ qs);rw[l17];omega
   |part p=>
    obtain⟨i1,i2⟩:=sD qs [] (λq h=>hq q (l7 _ h)) λ_ z=>nomatch z;refine⟨λx hx=>?_,?_⟩
    ·rcases l21.mp (show x∈bn sg++p::mgGo [] qs from hx) with z |z
     ·exact pl.1 x z
     ·rcases l9.mp z with z |z
      ·rw[z];exact hq _ l8
      ·exact i1 x z
    ·show ((bn sg++p::mgGo [] qs).map szC).sum<=_+(szC p+smQ qs);rw[l15,l85,l12,l24];have:=pl.2;have i2:((mgGo [] qs).map szC).sum<=0+smQ qs:=i2;omega
 termination_by qs=>qs.length
theorem mP:∀{ps:List PC},(∀p∈ps,OkC p)->(∀p∈ones ps,Ok1 p)/\((ones ps).map sz1).sum<=(ps.map szC).sum
 | [],_=>⟨λ_ z=>(nomatch z),l5 _⟩
 |p::ps,h=>by
  obtain⟨i1,i2⟩:=mP λq hq=>h q (l7 _ hq);have hp:=h p l8;cases p with
  |one q=>
   refine⟨λx hx=>?_,?_⟩
   ·rcases l9.mp (show x∈q::ones ps from hx) with z |z
    ·rw[z];exact hp
    ·exact i1 x z
   ·show sz1 q+_<=sz1 q+_;exact Nat.add_le_add_left i2 _
  |strong q=>exact⟨i1,l11 i2 (by rw[l12,l24];omega)⟩
def qh {inn:List Qc}(h:∀q∈inn,okQ q):okQ (bc inn)/\szQ (bc inn)<=smQ inn+2:=by
 unfold bc;split
 ·exact⟨⟨by unfold Asc;decide,by simp⟩,by show 2<=_;omega⟩
 ·obtain⟨a,b⟩:=sD inn [] h λ_ z=>nomatch z;obtain⟨d,e⟩:=mP a;have b:((mgGo [] inn).map szC).sum<=0+smQ inn:=b;exact⟨d,by show _+2<=_;omega⟩
theorem qi:∀(ps:List Pc) (o:Option (List Qc)),(∀p∈ps,PcG p)->(∀q∈o.getD [],okQ q)->(∀q∈wsGo o ps,okQ q)/\smQ (wsGo o ps)<=smQ (o.getD [])+(ps.map szP).sum+(if o.isSome then 2 else 0)
 | [],none,_,_=>⟨λ_ z=>(nomatch z),l10 _⟩
 | [], some inn, _, h => ⟨λq hq=>by
   rcases l9.mp (show q∈Qc.txt [42]::inn from hq) with z |z
   ·rw[z];exact⟨by unfold Asc;decide,by simp⟩
   ·exact h q z,by show 1+smQ inn<=smQ inn+0+2;omega⟩
 |p::r,o,hp,h=>by
  have hr:=λq hq=>hp q (l7 _ hq);have h1:=hp p l8;rw[l12,l24];by_cases hs:p = .star
  ·subst hs;cases o with
   |none=>
    obtain⟨a,b⟩:=qi r (some []) hr λ_ z=>nomatch z;exact⟨a,l11 b (by show smQ []+_+2<=smQ []+(2+_)+0;omega)⟩
   |some inn=>
    obtain⟨a,b⟩:=qi r none hr λ_ z=>nomatch z;obtain⟨d,e⟩:=qh h;refine⟨λq hq=>?_,?_⟩
    ·rcases l9.mp (show q∈bc inn::wsGo none r from hq) with z |z
     ·rw[z];exact d
     ·exact a q z
    ·have b:smQ (wsGo none r)<=0+(r.map szP).sum+0:=b;show szQ (bc inn)+smQ (wsGo none r)<=smQ inn+(2+_)+2;have e:szQ (bc inn)<=smQ inn+2:=e;omega
  ·obtain⟨t1,t2⟩:=xj h1;cases o with
   |none=>
    obtain⟨a,b⟩:=qi r none hr λ_ z=>nomatch z;rw[gA hs];refine⟨λq hq=>?_,?_⟩
    ·rcases l9.mp hq with z |z
     ·rw[z];exact t1
     ·exact a q z
    ·have b:smQ (wsGo none r)<=0+(r.map szP).sum+0:=b;show szQ (toQ p)+smQ (wsGo none r)<=0+(szP p+_)+0;omega
   |some inn=>
    rw[gB hs];obtain⟨a,b⟩:=qi r (some (inn++[toQ p])) hr λq hq=>(l21.mp hq).elim (h q) λz=>by rw[l14.mp z];exact t1
    refine⟨a,l11 b ?_⟩;show smQ (inn++[toQ p])+_+2<=smQ inn+(szP p+_)+2;rw[vn];show smQ inn+(szQ (toQ p)+0)+_+2<=_;omega
def qj:∀(qs:List Qc) (sg:List (List Nat)),(mgGo sg qs).length<=qs.length+(if sg=[] then 0 else 1)
 |qs,sg=>by
  have pl:(bn sg).length=if sg=[] then 0 else 1:=by
   unfold bn;cases sg <;> rfl
  cases qs with
  |nil=>show (bn sg).length<=0+_;omega
  |cons q qs=>
   cases q with
   |txt l=>
    have:=qj qs (sg++[l]);rw[if_neg (by simp)] at this;show (mgGo (sg++[l]) qs).length<=_;rw[l4];omega
   |part p=>
    have:(mgGo [] qs).length<=qs.length+0:=qj qs [];show (bn sg++p::mgGo [] qs).length<=_;rw[l6,l4,l4];omega
 termination_by qs=>qs.length
def bX {t:List Nat}(ha:Asc t)(hl:t.length<=900):OkPs (aS t):=by
 obtain⟨a1,a2⟩:=tQ _ (l5 _) ha;obtain⟨b1,b2⟩:=qi (aC t) none a2 λ_ z=>nomatch z;obtain⟨c1,c2⟩:=sD (wsGo none (aC t)) [] b1 λ_ z=>nomatch z;have b2:smQ (wsGo none (aC t))<=0+((aC t).map szP).sum+0:=b2;have c2:((aS t).map szC).sum<=0+smQ (wsGo none (aC t)):=c2;have e1:(aS t).length<=(wsGo none (aC t)).length+0:=qj (wsGo none (aC t)) [];have e2:(wsGo none (aC t)).length<=(aC t).length+0:=(bK (aC t) none).2;have e3:=fk _ t (l5 _);exact⟨by omega,c1,by omega⟩
def SzS (n:Nat):Srt->Prop
 | .empty=>True
 | .fence=>True
 | .quote r=>r.length+1<=n
 | .heading lv w=>lv<=3/\w.length<=n
 | .cells ts=>1<=ts.length/\ts.length<=n/\∀t∈ts,t.length<=n
 | .note a w=>a.length<=n/\w.length<=n
 | .name a w=>a.length<=n/\w.length<=n
 | .item _ sg w=>(sg=43 ∨ sg=45)/\w.length<=n
 | .plain _ w=>w.length<=n
def lI:∀{ls:List (List Nat)} {w:List Nat},w∈ls->w.length<=(ls.map List.length).sum
 |x::r,w,h=>by
  rw[l12,l24];rcases l9.mp h with z |z
  ·rw[z];omega
  ·have:=lI z;omega
def sE {l w:List Nat}(h:w∈aN l):w.length<=l.length:=by
 have h2:=gm l;have h3:=lI h;have h4:1<=(aN l).length:=List.length_pos_of_mem h;omega
def kA (l:List Nat):(bb l).length=l.length:=l0 _
def vo {l t:List Nat}(h:t∈aQ l):t.length<=l.length:=by
 have h2:((aQ l).map List.length).sum+(aQ l).length=l.length+1:=kZ l 0;have h3:=lI h;have h4:=List.length_pos_of_mem h;omega
def vp (l:List Nat):SzS l.length (aL l):=by
 have hbl:=my l;have td:∀x:List Nat,x.length<=l.length->(bR x).length<=l.length:=λx hx=>l11 (iP x) hx;unfold aL;simp only[];split
 ·trivial
 split
 ·rename_i h;have:1<=(aR l).length:=by cases e:aR l with |nil=>rw[e] at h;cases h |cons _ _=>simp
  show (gY l).length+1<=_;unfold gY;split <;> rw[l13] <;> omega
 split
 ·trivial
 split
 ·refine⟨?_,td _ (by rw[l13];omega)⟩;unfold cV;split <;> omega
 split
 ·rename_i h;unfold bf at h;rw[Bool.and_eq_true,Bool.and_eq_true] at h;have h2:=of_decide_eq_true h.1.1;have hi:(((aR l).drop 1).take ((aR l).length - 2)).length<=l.length - 2:=by rw[l30,l13];omega
  refine⟨?_,?_,λt ht=>?_⟩
  ·unfold cP;rw[l0];unfold aQ;cases e:aq 0 _ with
   |nil=>exact absurd e (cy _ _)
   |cons _ _=>simp
  ·unfold cP;rw[l0];have:=jY (((aR l).drop 1).take ((aR l).length - 2));omega
  ·obtain⟨x,hx,rfl⟩:=l20.mp ht;have:=vo hx;have:=jX x;exact td _ nofun
 have hdw:=dS ([32]:List Nat).contains (aR l);have hi:SzS l.length (iO (aR l)):=by
  unfold iO;simp only[];split
  ·rename_i h;refine⟨?_,td _ (by rw[l13];omega)⟩;rcases h with h |h <;> (cases e:(aR l).dropWhile ([32]:List Nat).contains with |nil=>rw[e] at h;cases h |cons x r=>?_) <;> rw[e] at h <;> simp at h
   ·exact .inr h.1.symm
   ·exact .inl h.1.symm
  ·exact td _ nofun
 cases hd:defC (aR l) with
 |none=>exact hi
 |some d=>
  unfold defC at hd;split at hd
  ·cases hd
  ·split at hd
   ·cases hd
   split at hd
   ·cases hd;exact⟨by rw[kA,l30,l13];omega,td _ (by rw[l13];omega)⟩
   split at hd
   ·cases hd;refine⟨by rw[kA,l30,l13];omega,?_⟩;cases hw:aN ((aR l).drop _) with
    |nil=>exact l10 _
    |cons x r=>
     have:=sE (l:=(aR l).drop _) (w:=x) (by rw[hw];exact l8);rw[l13] at this;show x.length<=_;omega
   ·cases hd
def cN (q:Bool)(l:List Nat):SzS l.length (srtQ q l):=by
 have:=vp l;unfold srtQ;split
 ·rename_i e;rw[e] at this;split
  ·exact this
  ·exact iP l
 ·exact this
def ci {q:Bool}{l:List Nat}(h:Asc l):AscS (srtQ q l):=by
 have:=rZ h;unfold srtQ;split
 ·rename_i e;rw[e] at this;split
  ·exact this
  ·exact h.tidy
 ·exact this
section
variable {f:Srt->Option (List Nat)}{q:Bool}{rs:List (List Nat)}
theorem qk (hf:∀n s w,SzS n s->f s=some w->w.length<=n):∀rs:List (List Nat),((tkW f q rs).map λr=>r.length+1).sum<=(rs.map λr=>r.length+1).sum
 | []=>l5 _
 |r::rs=>by
  have:=qk hf rs;cases e:f (srtQ q r) with
  |some x=>
   have:=hf _ _ _ (cN q r) e;rw[fo e,l12,l24,l12,l24];omega
  |none=>rw[gF (rs:=r::rs) e];exact l10 _
def SmR.tk (h : SmR rs) (hf : ∀ n s w, SzS n s -> f s = some w -> w.length <= n) (ha : ∀ s w, AscS s -> f s = some w -> Asc w) : SmR (tkW f q rs) := ⟨l11 (qk hf rs) h.sum,λw hw=>by
 obtain⟨r,h1,h2⟩:=mO hw;exact ha _ _ (ci (h.asc r h1)) h2⟩
def eN (n:Nat)(s:Srt)(w:List Nat)(h:SzS n s)(e:ba s=some w):w.length<=n:=by cases s <;> cases e;exact h
def eQ (s:Srt)(w:List Nat)(h:AscS s)(e:ba s=some w):Asc w:=by cases s <;> cases e;exact h
def mQ (n:Nat)(s:Srt)(w:List Nat)(h:SzS n s)(e:fJ s=some w):w.length<=n:=by cases s <;> cases e;exact Nat.le_of_succ_le h
def kB (s:Srt)(w:List Nat)(h:AscS s)(e:fJ s=some w):Asc w:=by cases s <;> cases e;exact h
def fq {s:Srt}{w:List Nat}(e:cM s=some w):ba s=some w:=by
 cases s with
 |plain far x=>
  have e:(if 1<=far then some x else none)=some w:=e;split at e
  ·exact e
  ·cases e
 |_=>cases e
def SmR.more {w:List Nat}(h:SmR rs)(hl:rs≠[])(hw:∀r,rs.head? = some r->w.length<=r.length/\Asc w):SmR (w::bo q rs):=by
 cases rs with
 |nil=>exact absurd rfl hl
 |cons r rs=>
  obtain⟨h1,h2⟩:=hw r rfl;have h3:=h.sum;rw[l12,l24] at h3;have h4:=(SmR.tk (q:=q) (f:=cM) (rs:=rs) ⟨by omega,λx hx=>h.asc x (l7 _ hx)⟩ (λn s w a b=>eN n s w a (fq b)) (λs w a b=>eQ s w a (fq b))).asc;have h5:=qk (f:=cM) (q:=q) (λn s w a b=>eN n s w a (fq b)) rs;refine⟨?_,λx hx=>?_⟩
  ·rw[l12,l24];show _+((tkW cM q rs).map λr=>r.length+1).sum<=_;omega
  ·rcases l9.mp hx with z |z
   ·rw[z];exact h2
   ·exact h4 x z
end
theorem jm:∀ws:List (List Nat),(ws.map λr=>r.length+1).sum=(ws.map List.length).sum+ws.length
 | []=>rfl
 |w::ws=>by have:=jm ws;rw[l12,l24,l12,l24,l4];omega
theorem mS:∀ws:List (List Nat),(∀r∈ws,Asc r)->Asc (ao [32] ws)
 | [],_=>λ_ z=>nomatch z
 | [p],h=>h p l8
 |p::q::r,h=>k5 (k5 (h p l8) (by unfold Asc;decide)) (mS (q::r) λx hx=>h x (l7 _ hx))
def SmR.glue {ws:List (List Nat)}(h:SmR ws):(ao [32] ws).length<=900/\Asc (ao [32] ws):=by
 refine⟨?_,?_⟩
 ·have:=Lm.glue_len ws;have:=jm ws;have:=h.sum;omega
 ·exact mS ws h.asc
def SmR.fit {ws:List (List Nat)}(h:SmR ws):((ws.map S).map (·.length)).sum+(ws.map S).length * (S [32]).length<=sizeLine:=by
 have e:(S [32]).length=1:=aA _;have:=jm ws;have:=h.sum;rw[gn,l0,e,Nat.mul_one,sizeLine_eq];omega
def OkI (its:List Itm):Prop:=its.length<=900/\∀x∈its,(x.2.1=43 ∨ x.2.1=45)/\x.2.2.length<=900/\Asc x.2.2
def lJ {first:Nat}:∀{its:List Itm} {pv:Nat} {x:Itm},x∈lvR first pv its->x.1<=5/\∃y∈its,x.2=y.2
 |y::its,pv,x,h=>by
  rcases l9.mp (show x∈(lvl first pv y.1,y.2.1,y.2.2)::lvR first (lvl first pv y.1+1) its from h) with z |z
  ·rw[z];exact⟨by show lvl first pv y.1<=5;unfold lvl;omega,y,l8,rfl⟩
  ·obtain⟨h1,y',h2,h3⟩:=lJ z;exact⟨h1,y',l7 _ h2,h3⟩
theorem ql {first:Nat}:∀(its:List Itm) (pv:Nat),(lvR first pv its).length=its.length
 | [],_=>rfl
 |y::its,pv=>congrArg (· + 1) (ql its _)
def OkI.lvs {its:List Itm}(h:OkI its):OkI (lvs its)/\∀x∈lvs its,x.1<=5:=by
 refine⟨⟨by unfold Lw.lvs;rw[ql];exact h.1,λx hx=>?_⟩,λx hx=>(lJ hx).1⟩;obtain⟨_,y,hy,e⟩:=lJ hx;rw[e];exact h.2 y hy
end Lw
namespace K15
open PySem L2 Lm Lw
def ini {C:Addr}{H5 H6:Hp}{y dx:Addr}(hy:H5 y=none)(hd':H5 dx=none)(kx:KeepX y (upd (upd H5 dx (.own y)) y (.ins C dx [])) H6):Same H5 H6:=λb o e=>kx b o (nq hy e) (af hy (ac hd' _) b o e)
def ini0 {C:Addr}{H5:Hp}{y dx:Addr}(hy:H5 y=none)(hd':H5 dx=none):Same H5 (upd (upd H5 dx (.own y)) y (.ins C dx [])):=af hy (ac hd' _)
def FndB {β:Type}(c:Cb)(R:Hp->Addr->β->Prop)(H:Hp)(Q:VK)(b:BkF β)(j:Nat):Prop:=∀t a H',Same H H'->H t=none->H' t=some (.tup [.ref a, .int j])->BAtF c R (dif H H') a b->Q (.ref t) H'
def FndB.tup {β:Type}{c:Cb}{R:Hp->Addr->β->Prop}{H H6:Hp}{Q:VK}{b:BkF β}{j:Nat}{y t:Addr}{v:V}(q:FndB c R H Q b j)(mR:MoR R)(s:Same H H6)(hb:BAtF c R (dif H H6) y b)(ht:H6 t=none)(e:v=V.int j):Q (.ref t) (upd H6 t (.tup [.ref y,v])):=by
 subst e;exact q t y _ (s.trans (ac ht _)) (s.free ht) aa (dH mR _ _ _ _ (i8 ht _) hb)
def RwAt (vs:List V)(H:Hp)(rs:List (List Nat))(i d:Nat):Prop:=∃l,vs=[.ref l, .int i, .int d]/\H l=some (.lst (rs.map vS))/\SmR rs
section
variable {c:Cb}{BT:Addr}{β:Type}{R:Hp->Addr->β->Prop}
abbrev vq:Stmt:=top 97
inductive spPara (c:Cb)(R:Hp->Addr->β->Prop)(vs:List V)(H:Hp)(Q:VK)(u3:XK):Prop
 |mk (rs i d)(_:RwAt vs H rs i d)(_:FndB c R H Q (.para (aS (ao [32] (tkW ba (decide (d < 4)) (rs.drop i))))) (i+(tkW ba (decide (d < 4)) (rs.drop i)).length))
def gG (mR:MoR R)(F:Fun K "para_at" "para_at" vq f fd)(T:TxD K mg c BT)(Da:Def P w K mg base 5 "sort_at" p5 (spSortAt K))(Db:Def P w K mg base 6 "parts_of" ["text"] (spPartsOf c.cp))(Dp:New P w K mg base 1 "Para" c.Para p10 (spInitL c.Para "parts")):FnOk P w K mg base CX0 7 f fd p5 (spPara c R):=by
 have sc:FnScope ["rows","place","deep","words","sort"] p5 (ad vq):=mkS;refine F.oks sc λ{_ _ _ s vs _}H Q hr h=>?_;obtain⟨rs,i,d,⟨l,rfl,el,hok⟩,q⟩:=h;refine ap (xbc (xst (i:=3) sc.nd (xlst xa0))
  (xbc (xst (i:=4) sc.nd (xcd Da hr (xac (xv 0) (xac (xv 1) (xac (xv 2) xa0)))))
  (xbc (cU PassesOwn.never (ay bx (xix aB (xv 4) xint (λ_ _=>rfl)) xstr (al _))
  (xbc (aZ (xmA (xv 3) (xac (xix aB (xv 4) xint (λ_ _=>rfl)) xa0)))
  (xb1 (xst (i:=4) sc.nd (xcd Da hr (xac (xv 0) (xac (xop au (xv 1) (xcB aj T.u10 PySem.boot_len (xac (xv 3) xa0))) (xac (xv 2) xa0))))))))
  (xb1 (xret (xtup (xac (xnew Dp hr.mono (xac (xcd Db hr (xac (xm plainAttrs_str slot_str_join type_str_join bz xstr (xac (xv 3) xa0)) xa0)) xa0)) (xac (xop au (xv 1) (xcB aj T.u10 PySem.boot_len (xac (xv 3) xa0))) xa0)))))))) ?_
 refine jk (K:=K) (f:=ba) (Rl:=λ_ v w=>v=vS w) (l:=l) (rs:=rs) (i:=i) (d:=d) (σt:=[]) (Pr:=λ_=>True) (λ_=>trivial) rfl (λσ H p s hσ hp=>?_) (λH p s a _ hp ha=>?_) (λ_ _ _ _ _ h=>h) (λ_ _ _ _ _ _ _ _ _ _ h=>h) el hok λX p vs H1 s1 hX eX hz=>?_
 ·refine(aF gu hσ hp).eq ?_;cases s <;> rfl
 ·cases s with
  |plain far w=>cases ha;exact⟨_,_,hp,am (j:=2) rfl,rfl⟩
  |_=>cases ha
 have hsm:=(hok.drop i).tk (q:=decide (d < 4)) eN eQ;have hvs:=hz.strs;generalize tkW ba (decide (d < 4)) (rs.drop i)=ws at hsm hvs q;subst hvs;have hg:=hsm.glue;refine⟨rfl,_,rfl,S [32],X,ws.map S,rfl,rfl,SqL.of (by rw[eX,ck]),hsm.fit,?_⟩;rw[bD];refine⟨_,rfl,by omega,hg.2,λr as H2 s2 hr2 er hps=>?_⟩;refine λy dx hy hd' hyd=>⟨y,dx,r,_,rfl,aa,ini0 hy hd' _ _ er,λp2 H6 hp2 kx e6p e6y=>⟨rfl,?_⟩⟩;have s26:=ini hy hd' kx;have s12:=s1.trans s2;have hp2':H2 p2=none:=(ini0 hy hd').free hp2;refine⟨_,rfl,_,rfl,X,_,rfl, .inl (SqL.of ((s2.trans s26) _ _ eX)),_,_,rfl,rfl,bg2,λt ht=>q.tup mR (s12.trans s26) ⟨dx,p2,by rw[ar (s12.free hy)];exact e6y,as,by rw[ar (s12.free hp2')];exact e6p,hps.same (av s1 s26)⟩ ht ?_⟩;rw[l0];rfl
abbrev vt:Stmt:=top 88
inductive spNote (c:Cb)(R:Hp->Addr->β->Prop)(vs:List V)(H:Hp)(Q:VK)(u3:XK):Prop
 |mk (rs i d n w)(_:RwAt vs H rs i d)(_:aY (decide (d < 4)) (rs.drop i) = .note n w)(_:FndB c R H Q (.note n (aS (ao [32] (w::bo (decide (d < 4)) (rs.drop i))))) (i+(1+(bo (decide (d < 4)) (rs.drop i)).length)))
def gH (mR:MoR R)(F:Fun K "note_at" "note_at" vt f fd)(T:TxD K mg c BT)(Da:Def P w K mg base 5 "sort_at" p5 (spSortAt K))(Dd:Def P w K mg base 6 "further_words" p5 spFurther)(Db:Def P w K mg base 6 "parts_of" ["text"] (spPartsOf c.cp))(Dq:New P w K mg base 1 "Noting" c.Noting p20 (spInitVL c.Noting "name" "parts")):FnOk P w K mg base CX0 7 f fd p5 (spNote c R):=by
 have sc:FnScope ["rows","place","deep","sort","words"] p5 (ad vt):=mkS;refine F.oks sc λH Q hr h=>?_;obtain⟨rs,i,d,n,w,⟨l,rfl,el,hok⟩,hs,q⟩:=h;refine ap (xbc (xst (i:=3) sc.nd (xcd Da hr (xac (xv 0) (xac (xv 1) (xac (xv 2) xa0)))))
  (xbc (xst (i:=4) sc.nd (xop bM (xlst (xac (xix aB (xv 3) xint (λ_ _=>rfl)) xa0)) (xcd Dd hr (xac (xv 0) (xac (xop au (xv 1) xint) (xac (xv 2) xa0))))))
  (xb1 (xret (xtup (xac (xnew Dq hr.mono (xac (xix aB (xv 3) xint (λ_ _=>rfl)) (xac (xcd Db hr (xac (xm plainAttrs_str slot_str_join type_str_join bz xstr (xac (xv 4) xa0)) xa0)) xa0))) (xac (xop au (xv 1) (xcB aj T.u10 PySem.boot_len (xac (xv 4) xa0))) xa0))))))) ?_
 rw[uB];refine⟨_,rfl,_,rfl,_,rfl,l,rs,i,d,rfl,el,hok,λp H1 s1 hp=>?_⟩;rw[hs] at hp
 left
 refine⟨_,rfl,p,_,2,_,rfl,rfl,SqT.of hp,am (j:=2) rfl,bg1,λa ha=>?_⟩;refine⟨_,rfl,_,rfl,_,_,rfl,rfl,_,rfl,l,rs,i+1,d,rfl,(s1.trans (ac ha _)) _ _ el,hok,λb H2 s2 hb eb=>?_⟩;have e:tkW cM (decide (d < 4)) (rs.drop (i+1))=bo (decide (d < 4)) (rs.drop i):=by unfold bo;rw[l27]
 rw[e] at eb;have hlt:i < rs.length:=by
  by_cases h:i < rs.length
  ·exact h
  ·rw[l41 nofun] at hs;cases hs
 have hsm:SmR (w::bo (decide (d < 4)) (rs.drop i)):=(hok.drop i).more (by intro z;rw[l28 hlt] at z;cases z) λr hr'=>by
  rw[l28 hlt] at hr' hs;cases hr';have h1:=cN (decide (d < 4)) rs[i];have h2:=ci (q:=decide (d < 4)) (hok.asc _ (l43 hlt));rw[show srtQ (decide (d < 4)) rs[i]=_ from hs] at h1 h2;exact⟨h1.2,h2.2⟩
 generalize bo (decide (d < 4)) (rs.drop i)=ms at hsm eb q;have s02:=(s1.trans (ac ha (.lst [vS w]))).trans s2;have ea2:=s2 _ _ (aa (H:=H1) (a:=a) (o := .lst [vS w]));refine⟨a,b,_,_,rfl,rfl,ea2,eb,?_,λX hX=>?_⟩
 ·have:=hsm.len;rw[l4] at this;rw[l0,sizeLine_eq];show 1+_<=_;omega
 left
 have s03:=s02.trans (ac hX (.lst ([vS w]++ms.map vS)));have eX:upd H2 X (.lst ([vS w]++ms.map vS)) X=some (.lst ((w::ms).map vS)):=aa;have ep3:=(ac hX (.lst ([vS w]++ms.map vS))) _ _ (s2 _ _ (ac ha (.lst [vS w]) _ _ hp));generalize upd H2 X (.lst ([vS w]++ms.map vS))=H3 at s03 eX ep3;have hg:=hsm.glue;refine⟨_,rfl,p,_,1,_,rfl,rfl,SqT.of ep3,am (j:=1) rfl,rfl,_,rfl,S [32],X,(w::ms).map S,rfl,rfl,SqL.of (by rw[eX,ck]),hsm.fit,?_⟩;rw[bD];refine⟨_,rfl,by omega,hg.2,λr as H4 s4 hr4 er hps=>?_⟩;refine λy dx hy hd' hyd=>⟨y,dx,_,r,_,rfl,aa,ini0 hy hd' _ _ er,λp2 H6 hp2 kx e6p e6y=>⟨rfl,?_⟩⟩;have s46:=ini hy hd' kx;have s04:=s03.trans s4;have hp2':H4 p2=none:=(ini0 hy hd').free hp2;refine⟨_,rfl,_,rfl,X,_,rfl, .inl (SqL.of ((s4.trans s46) _ _ eX)),_,_,rfl,rfl,bg2,λt ht=>q.tup mR (s04.trans s46) ⟨dx,p2,by rw[ar (s04.free hy)];exact e6y,as,by rw[ar (s04.free hp2')];exact e6p,hps.same (av s03 s46)⟩ ht ?_⟩;rw[l0,l4,l52 1];rfl
abbrev vv:Stmt:=top 89
inductive spLitA (c:Cb)(R:Hp->Addr->β->Prop)(vs:List V)(H:Hp)(Q:VK)(u3:XK):Prop
 |mk (l rs i)(_:vs=[.ref l, .int (i:Nat)])(_:H l=some (.lst (rs.map vS)))(_:SmR rs)(_:FndB c R H Q (.lit (litR (rs.drop (i+1))).1) (i+(1+(litR (rs.drop (i+1))).2)))
def gI (mR:MoR R)(F:Fun K "literal_at" "literal_at" vv f fd)(T:TxD K mg c BT)(Dh:Def P w K mg base 4 "sort_of" ["row"] (spSort K))(Dr:New P w K mg base 1 "Literal" c.Literal p14 (spInitL c.Literal "lines")):FnOk P w K mg base CX0 5 f fd p12 (spLitA c R):=by
 have sc:FnScope ["rows","place","lines","behind","row"] p12 (ad vv):=mkS;refine F.oks sc λ{_ _ _ s _ _}H Q hr h=>?_;obtain⟨l,rs,i,rfl,el,hok,q⟩:=h;refine ap (xbc (xst (i:=2) sc.nd (xlst xa0))
  (xbc (xst (i:=3) sc.nd (xop au (xv 1) xint))
  (xbc (cU PassesOwn.never (ay dL (xv 3) (xcB aj T.u10 PySem.boot_len (xac (xv 0) xa0)) (al _))
  (xbc (xst (i:=4) sc.nd (xix ax (xv 0) (xv 3) (λ_ _=>rfl)))
  (xbc (xaug (i:=3) sc.nd rfl (Or.inl rfl) xint fT)
  (xbc (xif (ay bx (xix aB (xcd Dh hr (xac (xv 4) xa0)) xint (λ_ _=>rfl)) xstr (al _)) (xb1 xbrk) xb0)
  (xb1 (aZ (xmA (xv 2) (xac (xv 4) xa0))))))))
  (xb1 (xret (xtup (xac (xnew Dr hr.mono (xac (xv 2) xa0)) (xac (xv 3) xa0)))))))) ?_
 rw[ww];refine⟨bg0,λX hX=>?_⟩;have s1:=ac hX (.lst []);have e1:upd H X (.lst []) X=some (.lst []):=aa
 left
 generalize upd H X (.lst [])=H1 at s1 e1 ⊢;refine⟨_,rfl,_,_,rfl,rfl,?_⟩
 left
 refine bm (λσ H'=>∃x4,σ=[some (.ref l),some (.int i),some (.ref X),some (.int ((i+(1+(litR (rs.drop (i+1))).2):Nat):Int)),x4]/\Same H H'/\H' X=some (.lst ((litR (rs.drop (i+1))).1.map vS))) (λN hN=>?_) ?_;rotate_left
 ·rintro σ H' ⟨x4,rfl,s',eX⟩;refine⟨_,rfl,λy dx hy hd' hyd=>⟨y,dx,X,_,rfl,aa,ini0 hy hd' _ _ eX,λp2 H6 hp2 kx e6p e6y=>⟨rfl,?_⟩⟩⟩;have s46:=ini hy hd' kx;have hp2':H' p2=none:=(ini0 hy hd').free hp2;exact⟨_,rfl,bg2,λt ht=>q.tup mR (s'.trans s46) ⟨dx,p2,by rw[ar (s'.free hy)];exact e6y,by rw[ar (s'.free hp2')];exact e6p⟩ ht rfl⟩
 refine cA (λm σ H'=>∃(x4:Option V) (done:List (List Nat)),σ=[some (.ref l),some (.int i),some (.ref X),some (.int ((i+1+done.length:Nat):Int)),x4]/\Same H H'/\H' X=some (.lst (done.map vS))/\done++(litR (rs.drop (i+1+done.length))).1=(litR (rs.drop (i+1))).1/\done.length+(litR (rs.drop (i+1+done.length))).2=(litR (rs.drop (i+1))).2/\m=rs.length - (i+1+done.length)) (rs.length - (i+1)) ⟨none,[],rfl,s1,e1,rfl,by show 0+_=_;rw[l67];rfl,rfl⟩ ?_;rintro m σ H2 ⟨x4,done,rfl,s2,eX,h1,h2,rfl⟩;refine⟨decide (i+1+done.length < rs.length),cR (ev_v rfl) (cX (K:=K) (ta:=tVar 0) (ev_v rfl) (.inl (SqL.of (s2 _ _ el)))) (eM (by rw[l0];omega)),λz H3 s3=>?_,λz H3 s3=>?_⟩
 ·have hlt:=of_decide_eq_true z;rw[l28 hlt] at h1 h2;have hrm:=l43 hlt;have hat:(rs.map vS)[i+1+done.length]? = some (vS rs[i+1+done.length]):=by rw[List.getElem?_map,List.getElem?_eq_getElem hlt];rfl
  generalize rs[i+1+done.length]=r at h1 h2 hrm hat;have hrl:=hok.row hrm;have s23:=s2.trans s3;refine⟨_,rfl,_,rfl,l,_,_,_,rfl,rfl,SqL.of (s23 _ _ el),am hat,?_⟩
  left
  refine⟨_,rfl,_,_,rfl,rfl,?_⟩
  left
  have tf:Tells (tTest (tOp rEq (tOp (rIxT K) (tCall (spSort K) [] E0 (tCons (tVar 4) tNil)) (tC (.int 0))) (tC (.str "fence")))) [some (.ref l),some (.int i),some (.ref X),some (.int (((i+1+done.length:Nat):Int)+1)),some (vS r)] H3 (decide (bJ (aL r)=cq)):=λR' k=>by
   refine⟨_,rfl,r,rfl,by omega,λp H4 s4 hp=>?_⟩;obtain⟨ys,ep,_,_⟩:=hp.parts;refine⟨p,_,0,_,rfl,rfl,SqT.of ep,am (j:=0) rfl,rfl,_,rfl,?_⟩;rw[show decide (vS (bJ (aL r))=V.str (Str.ofString "fence"))=decide (bJ (aL r)=cq) from decide_eq_decide.mpr ⟨λz=>fH (V.str.inj z),λz=>by rw[z];rfl⟩];exact k H4 s4
  refine s_if _ tf (λH4 s4 z=>?_) λH4 s4 z=>?_
  ·have hz:=of_decide_eq_true z;rw[show litR (r::rs.drop (i+1+done.length+1))=([],1) from if_pos hz] at h1 h2;refine hN _ _ ⟨some (vS r),?_,s23.trans s4,?_⟩
   ·rw[<- h2,show (((i+1+done.length:Nat):Int)+1)=((i+(1+(done.length+1)):Nat):Int) by omega]
   ·rw[<- h1,l17];exact s4 _ _ (s3 _ _ eX)
  ·have hz:=of_decide_eq_false z;rw[show litR (r::rs.drop (i+1+done.length+1))=(r::(litR (rs.drop (i+1+done.length+1))).1,(litR (rs.drop (i+1+done.length+1))).2+1) from if_neg hz] at h1 h2;have eX4:=s4 _ _ (s3 _ _ eX);have hdl:=hok.len;refine⟨_,rfl, .inl ⟨rfl,_,SqL.of eX4⟩,_,rfl,X,_,_,rfl,rfl,eX4,by rw[l0,sizeLine_eq];omega,_,?_,some (vS r),done++[r],?_,af hX (s23.trans s4),?_,?_,?_,rfl⟩
   ·rw[l6];show _ - (_+(_+1)) < _;omega
   ·rw[l6,show (((i+1+done.length:Nat):Int)+1)=((i+1+(done.length+1):Nat):Int) by omega];rfl
   ·rw[aa,l15];rfl
   ·rw[l6,l18];exact h1
   ·rw[l6];show _+1+(litR (rs.drop (i+1+done.length+1))).2=_;omega
 ·have hge:=of_decide_eq_false z;rw[l41 nofun] at h1 h2;have h1:done++[]=_:=h1;have h2:done.length+0=_:=h2;refine hN _ _ ⟨x4,?_,s2.trans s3,?_⟩
  ·rw[<- h2,show ((i+1+done.length:Nat):Int)=((i+(1+(done.length+0)):Nat):Int) by omega]
  ·rw[<- h1,l17];exact s3 _ _ eX
end
def TrAt {γ:Type}(R:Hp->Addr->γ->Prop)(G:Hp)(t:Addr)(x:γ×Nat×Nat):Prop:=∃a,G t=some (.tup [.ref a, .int x.2.1, .int x.2.2])/\R G a x.1
def yp {γ:Type}{R:Hp->Addr->γ->Prop}(m:MoR R):MoR (TrAt R):=λ_ _ _ _ s ⟨a,e,h⟩=>⟨a,s _ _ e,m _ _ _ _ s h⟩
theorem lK {γ:Type}{R:Hp->Addr->γ->Prop}{G:Hp}:∀{ts:List Addr} {xs:List (γ×Nat×Nat)},Ls (TrAt R G) ts xs->∃as:List Addr,as.length=ts.length/\(∀(i:Nat) t,ts[i]? = some t->∃a x,as[i]? = some a/\xs[i]? = some x/\G t=some (.tup [.ref a, .int x.2.1, .int x.2.2]))/\Ls (R G) as (xs.map (·.1))
 | [],[],_=>⟨[],rfl,(λi t h=>by simp at h),trivial⟩
 |t::ts,x::xs,⟨⟨a,e,r⟩,h⟩=>by
  obtain⟨as,h1,h2,h3⟩:=lK h;refine⟨a::as,by rw[l4,l4,h1],λi u hu=>?_,r,h3⟩;cases i with
  |zero=>cases hu;exact⟨a,x,rfl,rfl,e⟩
  |succ i=>
   obtain⟨a',x',p1,p2,p3⟩:=h2 i u (by simpa using hu);exact⟨a',x',by simpa using p1,by simpa using p2,p3⟩
section
variable {c:Cb}{BT:Addr}{β:Type}{R:Hp->Addr->β->Prop}{rdg:List (List Nat)->β×Nat}
inductive spBlks (R:Hp->Addr->β->Prop)(rdg:List (List Nat)->β×Nat)(d:Nat)(vs:List V)(H:Hp)(Q:VK)(u3:XK):Prop
 |mk (l rs)(_:vs=[.ref l, .int d])(_:H l=some (.lst (rs.map vS)))(_:SmR rs)(_:∀r ts H',Same H H'->H r=none->H' r=some (.lst (ts.map V.ref))->Ls (TrAt R (dif H H')) ts (blkR rdg rs.length 0 rs)->Q (.ref r) H')
abbrev lL:Stmt:=top 90
inductive spQuoteI (c:Cb)(R:Hp->Addr->β->Prop)(inn:List (List Nat)->List β)(d:Nat)(vs:List V)(H:Hp)(Q:VK)(u3:XK):Prop
 |mk (rs i)(_:RwAt vs H rs i d)(_:FndB c R H Q (.quote (inn (tkW fJ (decide (d < 4)) (rs.drop i)))) (i+(tkW fJ (decide (d < 4)) (rs.drop i)).length))
abbrev eR (c:Cb)(R:Hp->Addr->β->Prop)(rdg:List (List Nat)->β×Nat)(d:Nat):Sp:=spQuoteI c R (λxs=>(blkR rdg xs.length 0 xs).map (·.1)) d
theorem jn:∀(k p:Nat) (rs:List (List Nat)),(blkR rdg k p rs).length<=k
 |0,_,_=>l5 _
 |_+1,_,[]=>l10 _
 |k+1,p,r::rs=>by
  show (if emp r=true then _ else _:List (β×Nat×Nat)).length<=_;split
  ·exact Nat.le_succ_of_le (jn k _ _)
  ·exact Nat.succ_le_succ (jn k _ _)
def eU {d k:Nat}(hk:6<=k)(mR:MoR R)(F:Fun K "quote_at" "quote_at" lL f fd)(T:TxD K mg c BT)(Da:Def P w K mg base 5 "sort_at" p5 (spSortAt K))(Ya:Def P w K mg base k "blocks_of" p7 (spBlks R rdg (d+1)))(DC:New P w K mg base 1 "Quote" c.Quote p11 (spInitL c.Quote "blocks")):FnOk P w K mg base CX0 (k+1) f fd p5 (eR c R rdg d):=by
 have sc:FnScope ["rows","place","deep","rests","sort","blocks"] p5 (ad lL):=mkS;refine F.oks sc λ{_ _ _ s vs _}H Q hr h=>?_;obtain⟨rs,i,⟨l,rfl,el,hok⟩,q⟩:=h;refine ap (xbc (xst (i:=3) sc.nd (xlst xa0))
  (xbc (xst (i:=4) sc.nd (xcd Da hr (xac (xv 0) (xac (xv 1) (xac (xv 2) xa0)))))
  (xbc (cU PassesOwn.never (ay bx (xix aB (xv 4) xint (λ_ _=>rfl)) xstr (al _))
  (xbc (aZ (xmA (xv 3) (xac (xix aB (xv 4) xint (λ_ _=>rfl)) xa0)))
  (xb1 (xst (i:=4) sc.nd (xcd Da hr (xac (xv 0) (xac (xop au (xv 1) (xcB aj T.u10 PySem.boot_len (xac (xv 3) xa0))) (xac (xv 2) xa0))))))))
  (xbc (rO (i:=5) (own:=["triple"]) sc.nd
  (xil (xcd Ya hr (xac (xv 3) (xac (xop au (xv 2) xint) xa0))))
  (λ_ _ _ _=>xgm (i:=0) (show (["triple"]:List Str).Nodup by decide)) (λ_ _ _ _=>xq0) (λ_ _ _ _=>(xix oU (xv 0) xint (λ_ _=>rfl))))
  (xb1 (xret (xtup (xac (xnew DC hr.mono (xac (xv 5) xa0)) (xac (xop au (xv 1) (xcB aj T.u10 PySem.boot_len (xac (xv 3) xa0))) xa0))))))))) ?_
 refine jk (K:=K) (f:=fJ) (Rl:=λ_ v w=>v=vS w) (l:=l) (rs:=rs) (i:=i) (d:=d) (σt:=[none]) (Pr:=λ_=>True) (λ_=>trivial) rfl (λσ H p s hσ hp=>?_) (λH p s a _ hp ha=>?_) (λ_ _ _ _ _ h=>h) (λ_ _ _ _ _ _ _ _ _ _ h=>h) el hok λX p vs H1 s1 hX eX hz=>?_
 ·refine(aF cn hσ hp).eq ?_;cases s <;> rfl
 ·cases s with
  |quote w=>cases ha;exact⟨_,_,hp,am (j:=1) rfl,rfl⟩
  |_=>cases ha
 have hsm:=(hok.drop i).tk (q:=decide (d < 4)) mQ kB;have hvs:=hz.strs;generalize tkW fJ (decide (d < 4)) (rs.drop i)=ws at hsm hvs q;subst hvs;refine⟨_,rfl,_,rfl,_,_,rfl,rfl,X,ws,rfl,eX,hsm,λr ts H2 s2 hr2 er hts=>?_⟩;have hbl:=jn (rdg:=rdg) ws.length 0 ws;have htl:=hts.len;have hwl:=hsm.len;obtain⟨as,ha1,ha2,ha3⟩:=lK hts;refine⟨r,rfl,⟨_,SqL.of er⟩,?_⟩;refine nI (λj=>(((as.map V.ref)[j]?).getD .non)) (SqL.of er) (by rw[l0,sizeLine_eq];omega) ?_ ?_
 ·intro j x hx H3 s3 C N hC;rw[List.getElem?_map] at hx;cases hj:ts[j]? with
  |none=>rw[hj] at hx;cases hx
  |some t=>
  rw[hj] at hx;cases hx;obtain⟨a,x,p1,p2,p3⟩:=ha2 j t hj;refine⟨(nfLe.refl _ _ _).set ∅ _,iteT (B:=N H3) ⟨_,rfl,t,_,0,_,rfl,rfl,SqT.of (s3 _ _ (dif_same _ _ p3)),am (j:=0) rfl,?_⟩⟩;have:=hC H3 (Same.refl _);rw[List.getElem?_map,p1] at this;exact this
 intro D H3 hD s3 eD;have eD:H3 D=some (.lst (as.map V.ref)):=by
  rw[eD,l0,<- ha1];congr 2;apply l73;intro j;by_cases hj:j < as.length
  ·rw[List.getElem?_map,List.getElem?_range hj,l84,List.getElem?_map,List.getElem?_eq_getElem hj];rfl
  ·rw[List.getElem?_eq_none (by rw[l0,l38];omega),List.getElem?_eq_none (by rw[l0];omega)]
 left
 refine⟨_,rfl,λy dx hy hd' hyd=>⟨y,dx,D,_,rfl,aa,ini0 hy hd' _ _ eD,λp2 H6 hp2 kx e6p e6y=>⟨rfl,?_⟩⟩⟩;have s36:=ini hy hd' kx;have s13:=(s1.trans s2).trans s3;have hp2':H3 p2=none:=(ini0 hy hd').free hp2;refine⟨_,rfl,_,rfl,X,_,rfl, .inl (SqL.of (((s2.trans s3).trans s36) _ _ eX)),_,_,rfl,rfl,bg2,λt ht=>q.tup mR (s13.trans s36) ⟨dx,p2,by rw[ar (s13.free hy)];exact e6y,as,by rw[ar (s13.free hp2')];exact e6p,ha3.mono λa x=>mR _ _ _ _ (av s1 (s3.trans s36))⟩ ht ?_⟩;rw[l0];rfl
abbrev kC:Stmt:=top 83
inductive spBlock (c:Cb)(R:Hp->Addr->β->Prop)(rdg:List (List Nat)->BkF β×Nat)(d:Nat)(vs:List V)(H:Hp)(Q:VK)(u3:XK):Prop
 |mk (rs i)(_:RwAt vs H rs i d)(_:FndB c R H Q (rdg (rs.drop i)).1 (i+(rdg (rs.drop i)).2))
def gJ {d k:Nat}{rdb:List (List Nat)->BkF β×Nat}(hk:5<=k)(mR:MoR R)(hpos:∀r rs,emp r=false->1<=(rdb (r::rs)).2)(F:Fun K "blocks_of" "blocks_of" kC f fd)(T:TxD K mg c BT)(Ds:Def P w K mg base 5 "is_empty" ["row"] spEmpty)(Yb:Def P w K mg base k "block_at" p5 (spBlock c R rdb d)):FnOk P w K mg base CX0 (k+1) f fd p7 (spBlks (BAtF c R) rdb d):=by
 have sc:FnScope ["rows","deep","triples","place","found"] p7 (ad kC):=mkS;refine F.oks sc λ{_ _ _ s _ _}H Q hr h=>?_;obtain⟨l,rs,rfl,el,hok,q⟩:=h;refine ap (xbc (xst (i:=2) sc.nd (xlst xa0))
  (xbc (xst (i:=3) sc.nd xint)
  (xbc (cU PassesOwn.never (ay dL (xv 3) (xcB aj T.u10 PySem.boot_len (xac (xv 0) xa0)) (al _))
  (xbc (xif (bv (xcd Ds hr (xac (xix ax (xv 0) (xv 3) (λ_ _=>rfl)) xa0))) (xbc (xaug (i:=3) sc.nd rfl (Or.inl rfl) xint fT)
  (xb1 uQ)) xb0)
  (xbc (xst (i:=4) sc.nd (xcd Yb hr (xac (xv 0) (xac (xv 3) (xac (xv 1) xa0)))))
  (xbc (aZ (xmA (xv 2) (xac (xtup (xac (xix aB (xv 4) xint (λ_ _=>rfl)) (xac (xv 3) (xac (xix aB (xv 4) xint (λ_ _=>rfl)) xa0)))) xa0)))
  (xb1 (xst (i:=3) sc.nd (xix aB (xv 4) xint (λ_ _=>rfl))))))))
  (xb1 (xret (xv 2)))))) ?_
 rw[ww];refine⟨bg0,λX hX=>?_⟩;have s1:=ac hX (.lst []);have e1:upd H X (.lst []) X=some (.lst []):=aa
 left
 generalize upd H X (.lst [])=H1 at s1 e1 ⊢;refine pK ?_
 left
 have w6:=hok.len;have mT:=yp (dH (c:=c) mR);refine cA (λm σ H'=>∃(x4:Option V) (p k':Nat) (ts:List Addr) (dn:List (BkF β×Nat×Nat)),σ=[some (.ref l),some (.int d),some (.ref X),some (.int (p:Int)),x4]/\Same H H'/\H' X=some (.lst (ts.map V.ref))/\(NewQ H [X] H' λG=>Ls (TrAt (BAtF c R) G) ts dn)/\dn++blkR rdb k' p (rs.drop p)=blkR rdb rs.length 0 rs/\rs.length - p<=k'/\ts.length<=p/\m=rs.length - p) rs.length ⟨none,0,rs.length,[],[],rfl,s1,e1,NewQ.triv trivial,rfl,Nat.sub_le _ _,l10 _,rfl⟩ ?_;rintro m σ H2 ⟨x4,p,k',ts,dn,rfl,s2,eX,hn,hrun,hk',htp,rfl⟩;refine⟨decide (p < rs.length),cR (ev_v rfl) (cX (K:=K) (ta:=tVar 0) (ev_v rfl) (.inl (SqL.of (s2 _ _ el)))) (eM (by rw[l0];omega)),λz H3 s3=>?_,λz H3 s3=>?_⟩
 ·have hlt:=of_decide_eq_true z;obtain⟨k2,rfl⟩:∃k2,k'=k2+1:=⟨k' - 1,by omega⟩;have hdr:=l28 hlt;have hrm:=l43 hlt;have hat:(rs.map vS)[p]? = some (vS rs[p]):=by rw[List.getElem?_map,List.getElem?_eq_getElem hlt];rfl
  rw[hdr] at hrun;generalize rs[p]=r at hrun hrm hat hdr;have hrl:=hok.row hrm;have s23:=s2.trans s3;have tf:Tells (tB (tCall spEmpty [] E0 (tCons (tOp (rIxL K) (tVar 0) (tVar 3)) tNil))) [some (.ref l),some (.int d),some (.ref X),some (.int (p:Int)),x4] H3 (emp r):=λR' k=>⟨_,rfl,_,rfl,l,_,_,_,rfl,rfl,SqL.of (s23 _ _ el),am hat,r,rfl,by omega,λH4 s4=>⟨_,rfl,k H4 s4⟩⟩;refine s_if _ tf (λH4 s4 z=>?_) λH4 s4 z=>?_
  ·refine⟨_,rfl,_,_,rfl,rfl,?_⟩
   left
   rw[show blkR rdb (k2+1) p (r::rs.drop (p+1))=blkR rdb k2 (p+1) (rs.drop (p+1)) from if_pos z] at hrun;exact⟨_,(show rs.length - (p+1) < rs.length - p by omega),x4,p+1,k2,ts,dn,rfl,s23.trans s4,s4 _ _ (s3 _ _ eX),(hn.same s3).same s4,hrun,by omega,by omega,rfl⟩
  ·rw[show blkR rdb (k2+1) p (r::rs.drop (p+1))=((rdb (r::rs.drop (p+1))).1,p,p+(rdb (r::rs.drop (p+1))).2)::blkR rdb k2 (p+(rdb (r::rs.drop (p+1))).2) ((r::rs.drop (p+1)).drop (rdb (r::rs.drop (p+1))).2) from if_neg (by rw[z];exact Bool.noConfusion)] at hrun;have hp1:=hpos r (rs.drop (p+1)) z;rw[<- hdr] at hrun hp1;have s24:=s23.trans s4;have eX4:=s4 _ _ (s3 _ _ eX);refine⟨_,rfl,_,rfl,_,rfl,rs,p,⟨l,rfl,s24 _ _ el,hok⟩,λt a H5 s5 ht et hb=>?_⟩;generalize rdb (rs.drop p)=x at hrun hp1 et hb;obtain⟨b,n⟩:=x
   left
   have eX5:=s5 _ _ eX4;refine⟨_,rfl, .inl ⟨rfl,_,SqL.of eX5⟩,_,rfl,t,_,0,_,rfl,rfl,SqT.of et,am (j:=0) rfl,_,rfl,_,rfl,t,_,1,_,rfl,rfl,SqT.of et,am (j:=1) rfl,bg3,λt2 ht2=>?_⟩;have htX:X≠t2:=λz=>by rw[<- z,eX5] at ht2;cases ht2
   have s6:=ac ht2 (.tup [.ref a, .int p, .int ((p+n:Nat):Int)]);refine⟨X,_,_,rfl,rfl,s6 _ _ eX5,by rw[l0,sizeLine_eq];omega,?_⟩;have sU:Same H (upd (upd H5 t2 (.tup [.ref a, .int p, .int ((p+n:Nat):Int)])) X (.lst (ts.map V.ref++[.ref t2]))):=af hX ((s24.trans s5).trans s6);have htt:X≠t:=λz=>by rw[<- z,eX4] at ht;cases ht
   refine⟨_,rfl,t,_,1,_,rfl,rfl,SqT.of ((ag (Ne.symm htt)).trans (s6 _ _ et)),am (j:=1) rfl,?_⟩
   left
   refine⟨_,(show rs.length - (p+n) < rs.length - p by omega),some (.ref t),p+n,k2,ts++[t2],dn++[(b,p,p+n)],rfl,sU,by rw[aa,l15];rfl,?_,?_,by omega,by rw[l6];show _+1<=_;omega,rfl⟩
   ·refine NewQ.upd ?_ l8;refine NewQ.join ((((hn.same s3).same s4).same s5).same s6) (NewQ.of (H3:=H4) (R:=λG=>TrAt (BAtF c R) G t2 (b,p,p+n)) s24 (λb' hb' z=>?_) ⟨a,?_,dH mR _ _ _ _ (av (Same.refl _) s6) hb⟩) (λG G' s h=>h.mono λa x=>mT _ _ _ _ s) (λG G' s h=>mT _ _ _ _ s h) λG h1 h2=>h1.snoc h2
    ·rw[l14.mp hb',eX4] at z;cases z
    ·rw[ar (s5.free ht2)];exact aa
   ·rw[l18,<- l27];exact hrun
 ·have hge:=of_decide_eq_false z;rw[l41 nofun] at hrun;have hb0:blkR rdb k' p []=[]:=by cases k' <;> rfl
  rw[hb0,l17] at hrun;refine⟨_,rfl,q X ts H3 (s2.trans s3) hX (s3 _ _ eX) ?_⟩;rw[<- hrun];exact(hn.same s3).dif λG G' s h=>h.mono λa x=>mT _ _ _ _ s
end
def ItAt (G:Hp)(t:Addr)(x:Itm):Prop:=G t=some (.tup [.int x.1,vS [x.2.1],vS x.2.2])
def gK:MoR ItAt:=λ_ _ _ _ s h=>s _ _ h
def vw {n:Nat}(h:n=43 ∨ n=45):kl (decide (n=43))=[n]:=by rcases h with rfl |rfl <;> rfl
section
variable {c:Cb}{BT:Addr}
abbrev sEnt:Stmt:=top 96
inductive spEnt (c:Cb)(n:Nat)(vs:List V)(H:Hp)(Q:VK)(u3:XK):Prop
 |mk (l:Addr)(its:List Itm)(p:Nat)(_:vs=[.ref l, .int p, .int ((6 - n:Nat):Int)])(_:LAt ItAt H l its)(_:OkI its)(_:∀x∈its,x.1<=5)(_:∀t r H',Same H H'->H' t=some (.tup [.ref r, .int ((p+(entR n (its.drop p)).2:Nat):Int)])->LAt (EAt c n) (dif H H') r (entR n (its.drop p)).1->Q (.ref t) H')
def gL {n k:Nat}{spI:Sp}(hk:6<=k)(hn6:n<=6)(hI:∀j,n=j+1->∀vs H Q E,spEnt c j vs H Q E->spI vs H Q E)(F:Fun K "entries_from" "entries_from" sEnt f fd)(T:TxD K mg c BT)(Yc:Def P w K mg base k "entries_from" p8 spI)(Db:Def P w K mg base 6 "parts_of" ["text"] (spPartsOf c.cp))(Dl:New P w K mg base 1 "Entry" c.Entry p22 (spInitE c.Entry)):FnOk P w K mg base CX0 (k+1) f fd p8 (spEnt c n):=by
 have sc:FnScope ["items","place","level","entries","item","within"] p8 (ad sEnt):=mkS;refine F.oks sc λ{_ _ _ s _ _}H Q hr h=>?_;obtain⟨l,its,p,rfl,⟨ts,el,hts⟩,hok,h5,q⟩:=h;refine ap (xbc (xst (i:=3) sc.nd (xlst xa0))
  (xbc (cU PassesOwn.never (xand (ay dL (xv 1) (xcB aj T.u10 PySem.boot_len (xac (xv 0) xa0)) (al _)) (gW (ay oB (xix aB (xix ax (xv 0) (xv 1) (λ_ _=>rfl)) xint (λ_ _=>rfl)) (xv 2) (al _)))).xt
  (xbc (xst (i:=4) sc.nd (xix ax (xv 0) (xv 1) (λ_ _=>rfl)))
  (xbc (xst (i:=5) sc.nd (xcd Yc hr (xac (xv 0) (xac (xop au (xv 1) xint) (xac (xop au (xv 2) xint) xa0)))))
  (xbc (aZ (xmA (xv 3) (xac (xnew Dl hr.mono (xac (xix aB (xv 4) xint (λ_ _=>rfl)) (xac (xcd Db hr (xac (xix aB (xv 4) xint (λ_ _=>rfl)) xa0)) (xac (xix aB (xv 5) xint (λ_ _=>rfl)) xa0)))) xa0)))
  (xb1 (xst (i:=1) sc.nd (xix aB (xv 5) xint (λ_ _=>rfl))))))))
  (xb1 (xret (xtup (xac (xv 3) (xac (xv 1) xa0))))))) ?_
 rw[wx];refine⟨bg0,λX hX=>?_⟩;have s1:=ac hX (.lst []);have e1:upd H X (.lst []) X=some (.lst []):=aa
 left
 generalize upd H X (.lst [])=H1 at s1 e1 ⊢;have htl:=hts.len;have hil:=hok.1;refine bm (λσ H'=>∃(x4 x5:Option V) (es:List Addr),σ=[some (.ref l),some (.int ((p+(entR n (its.drop p)).2:Nat):Int)),some (.int ((6 - n:Nat):Int)),some (.ref X),x4,x5]/\Same H H'/\H' X=some (.lst (es.map V.ref))/\NewQ H [X] H' λG=>Ls (EAt c n G) es (entR n (its.drop p)).1) (λN hN=>?_) ?_;rotate_left
 ·rintro σ H' ⟨x4,x5,es,rfl,s',eX,hn⟩;refine⟨_,rfl,_,rfl,bg2,λt ht=>q t X _ (s'.trans (ac ht _)) aa ⟨es,?_,?_⟩⟩
  ·rw[ar hX];exact ac ht _ _ _ eX
  ·exact(hn.same (ac ht _)).dif λG G' s h=>h.mono λa x=>eH n _ _ _ _ s
 have tl:∀{H':Hp} {p':Nat} {x4 x5:Option V},Same H H'->Tells (tAnd (tTest (tOp (rI0 λi j=>V.bl (decide (i < j))) (tVar 1) (tCB (R_call_len_seq K) (tCons (tVar 0) tNil)))) (tTest (tOp (rI0 λi j=>V.bl (decide (j<=i))) (tOp (rIxT K) (tOp (rIxL K) (tVar 0) (tVar 1)) (tC (.int 0))) (tVar 2)))) [some (.ref l),some (.int (p':Int)),some (.int ((6 - n:Nat):Int)),some (.ref X),x4,x5] H' (match its[p']? with |none=>false |some x=>decide (6 - n<=x.1)):=λ{H' p' x4 x5} s'=>by
  cases hx:its[p']? with
  |none=>
   have hge:=List.getElem?_eq_none_iff.mp hx;exact dk false false (cR (ev_v rfl) (cX (K:=K) (ta:=tVar 0) (ev_v rfl) (.inl (SqL.of (s' _ _ el)))) (by rw[l0,decide_eq_false nofun])) λz=>nomatch z
  |some x=>
   have hlt:=(List.getElem?_eq_some_iff.mp hx).1;obtain⟨t,ht⟩:∃t,ts[p']? = some t:=⟨_,List.getElem?_eq_getElem nofun⟩;have hat:(ts.map V.ref)[p']? = some (.ref t):=by rw[List.getElem?_map,ht];rfl
   obtain⟨a,x',hv,hx',_,hit⟩:=hts.get hat;cases hv;rw[hx] at hx';cases hx';exact Tells.eq (dk true (decide (6 - n<=x.1)) (cR (ev_v rfl) (cX (K:=K) (ta:=tVar 0) (ev_v rfl) (.inl (SqL.of (s' _ _ el)))) (by rw[l0,decide_eq_true nofun])) λ_ H2 s2=>cR (λR' k=>⟨_,rfl,_,rfl,l,_,_,_,rfl,rfl,SqL.of ((s'.trans s2) _ _ el),am hat,t,_,0,_,rfl,rfl,SqT.of ((s'.trans s2) _ _ hit),am (j:=0) rfl,k⟩) (ev_v rfl) (eM nofun)) (Bool.true_and _)
 cases n with
 |zero=>
  refine cA (λm σ H'=>σ=[some (.ref l),some (.int (p:Int)),some (.int ((6 - 0:Nat):Int)),some (.ref X),none,none]/\H'=H1) 0 ⟨rfl,rfl⟩ ?_;rintro m σ _ ⟨rfl,rfl⟩;refine⟨false,(tl s1).eq ?_,(λz=>Bool.noConfusion z),λ_ H2 s2=>hN _ _ ⟨none,none,[],rfl,s1.trans s2,s2 _ _ e1,NewQ.triv trivial⟩⟩;cases hx:its[p]? with
  |none=>rfl
  |some x=>
   have:=h5 x (l16 hx);exact decide_eq_false nofun
 |succ j=>
  have elv:6 - (j+1)=5 - j:=by omega
  refine cA (λm σ H'=>∃(x4 x5:Option V) (p' k':Nat) (es:List Addr) (dn:List (EnF (En j))),σ=[some (.ref l),some (.int (p':Int)),some (.int ((6 - (j+1):Nat):Int)),some (.ref X),x4,x5]/\Same H H'/\H' X=some (.lst (es.map V.ref))/\(NewQ H [X] H' λG=>Ls (EAt c (j+1) G) es dn)/\dn++(entF (entR j) (5 - j) k' (its.drop p')).1=(entF (entR j) (5 - j) (its.drop p).length (its.drop p)).1/\p'+(entF (entR j) (5 - j) k' (its.drop p')).2=p+(entF (entR j) (5 - j) (its.drop p).length (its.drop p)).2/\its.length - p'<=k'/\es.length<=p'/\m=its.length - p') (its.length - p) ⟨none,none,p,(its.drop p).length,[],[],rfl,s1,e1,NewQ.triv trivial,rfl,rfl,by rw[l13];exact l5 _,l10 _,rfl⟩ ?_;rintro m σ H2 ⟨x4,x5,p',k',es,dn,rfl,s2,eX,hn,hrun,hend,hk',hes,rfl⟩;refine⟨_,tl s2,λz H3 s3=>?_,λz H3 s3=>?_⟩
  ·cases hx:its[p']? with
   |none=>rw[hx] at z;cases z
   |some x=>
   rw[hx] at z;have hlv:=of_decide_eq_true z;obtain⟨hlt,hxe⟩:=List.getElem?_eq_some_iff.mp hx;obtain⟨hsg,hwl,hwa⟩:=hok.2 x (l16 hx);obtain⟨t,ht⟩:∃t,ts[p']? = some t:=⟨_,List.getElem?_eq_getElem nofun⟩;have hat:(ts.map V.ref)[p']? = some (.ref t):=by rw[List.getElem?_map,ht];rfl
   obtain⟨a,x',hv,hx',_,hit⟩:=hts.get hat;cases hv;rw[hx] at hx';cases hx';obtain⟨k2,rfl⟩:∃k2,k'=k2+1:=⟨k' - 1,by omega⟩;have hdr:its.drop p'=x::its.drop (p'+1):=by rw[l28 hlt,hxe]
   rw[hdr,show entF (entR j) (5 - j) (k2+1) (x::its.drop (p'+1))=(⟨decide (x.2.1=43),aS x.2.2,(entR j (its.drop (p'+1))).1⟩::(entF (entR j) (5 - j) k2 ((its.drop (p'+1)).drop (entR j (its.drop (p'+1))).2)).1,1+(entR j (its.drop (p'+1))).2+(entF (entR j) (5 - j) k2 ((its.drop (p'+1)).drop (entR j (its.drop (p'+1))).2)).2) from if_pos nofun] at hrun hend;have s23:=s2.trans s3;refine⟨_,rfl,_,rfl,l,_,_,_,rfl,rfl,SqL.of (s23 _ _ el),am hat,?_⟩
   left
   refine⟨_,rfl,_,rfl,_,_,rfl,rfl,_,rfl,_,_,rfl,rfl,hI j rfl _ _ _ _ ⟨l,its,p'+1,?_,⟨ts,s23 _ _ el,hts.mono λa x=>gK _ _ _ _ s23⟩,hok,h5,λt5 r H4 s4 et5 hr5=>?_⟩⟩
   ·rw[show ((6 - j:Nat):Int)=((6 - (j+1):Nat):Int)+1 by omega];rfl
   generalize entR j (its.drop (p'+1))=ein at hrun hend et5 hr5;obtain⟨ew,en⟩:=ein;obtain⟨bs,er5,hbs⟩:=hr5
   left
   have eX3:=s3 _ _ eX;have eX4:=s4 _ _ eX3;have hit4:=s4 _ _ (s23 _ _ hit);refine⟨_,rfl, .inl ⟨rfl,_,SqL.of eX4⟩,_,rfl,t,_,1,_,rfl,rfl,SqT.of hit4,am (j:=1) rfl,_,rfl,t,_,2,_,rfl,rfl,SqT.of hit4,am (j:=2) rfl,x.2.2,rfl,by omega,hwa,λr2 as H5 s5 hr2 er2 hps=>?_⟩;refine⟨_,rfl,t5,_,0,_,rfl,rfl,SqT.of (s5 _ _ et5),am (j:=0) rfl,λy dx hy hd' hyd=>⟨y,dx,_,r2,_,r,_,rfl,aa,ini0 hy hd' _ _ er2,ini0 hy hd' _ _ (s5 _ _ (dif_same _ _ er5)),λp2 p3 H6 hp2 hp3 kx e6p e6r e6y=>⟨rfl,?_⟩⟩⟩;have s56:=ini hy hd' kx;have s46:=s5.trans s56;have s36:=s4.trans s46;have eX6:=s36 _ _ eX3;refine⟨X,_,_,rfl,rfl,eX6,by rw[l0,sizeLine_eq];omega,?_⟩;have hXt:t5≠X:=(nq eX4 et5);refine⟨_,rfl,t5,_,1,_,rfl,rfl,SqT.of ((ag hXt).trans (s46 _ _ et5)),am (j:=1) rfl,?_⟩
   left
   have hp2':H5 p2=none:=(ini0 hy hd').free hp2;have hp3':H5 p3=none:=(ini0 hy hd').free hp3;have s35:=s4.trans s5;refine⟨_,(show its.length - (p'+1+en) < its.length - p' by omega),some (.ref t),some (.ref t5),p'+1+en,k2,es++[y],dn++[⟨decide (x.2.1=43),aS x.2.2,ew⟩],rfl,af hX (s23.trans s36),by rw[aa,l15];rfl,?_,?_,?_,by omega,by rw[l6];show _+1<=_;omega,rfl⟩
   ·refine NewQ.upd ?_ l8;refine NewQ.join ((hn.same s3).same s36) (NewQ.of (H3:=H3) (R:=λG=>EAt c (j+1) G y ⟨decide (x.2.1=43),aS x.2.2,ew⟩) s23 (λb' hb' z=>?_) ⟨dx,p2,p3,?_,⟨as,?_,hps.same (av s4 s56)⟩,bs,?_,hbs.mono λa x=>eH j _ _ _ _ (av (Same.refl _) s46)⟩) (λG G' s h=>h.mono λa x=>eH (j+1) _ _ _ _ s) (λG G' s h=>eH (j+1) _ _ _ _ s h) λG h1 h2=>h1.snoc h2
    ·rw[l14.mp hb',eX3] at z;cases z
    ·rw[ar (s35.free hy),e6y];show _=some (HO.ins c.Entry dx [("sign",vS (kl (decide (x.2.1=43)))),_,_]);rw[vw hsg]
    ·rw[ar (s35.free hp2')];exact e6p
    ·rw[ar (s35.free hp3')];exact e6r
   ·rw[l18,<- l27];exact hrun
   ·rw[<- l27];have hend:p'+(1+en+(entF (entR j) (5 - j) k2 ((its.drop (p'+1)).drop en)).2)=_:=hend;omega
  ·have hstop:entF (entR j) (5 - j) k' (its.drop p')=([],0):=by
    cases k' with
    |zero=>rfl
    |succ k2=>
     cases hx:its[p']? with
     |none=>rw[l41 (List.getElem?_eq_none_iff.mp hx)];rfl
     |some x=>
      rw[hx] at z;have:=of_decide_eq_false z;obtain⟨hlt,hxe⟩:=List.getElem?_eq_some_iff.mp hx;rw[l28 hlt,hxe];exact if_neg nofun
   rw[hstop] at hrun hend;have hrun:dn++[]=_:=hrun;have hend:p'+0=_:=hend;refine hN _ _ ⟨x4,x5,es,?_,s2.trans s3,s3 _ _ eX,?_⟩
   ·rw[show entR (j+1) (its.drop p)=entF (entR j) (5 - j) (its.drop p).length (its.drop p) from rfl,<- hend];rfl
   ·rw[show entR (j+1) (its.drop p)=entF (entR j) (5 - j) (its.drop p).length (its.drop p) from rfl,<- hrun,l17];exact hn.same s3
end
section
variable {c:Cb}{BT:Addr}{β:Type}{R:Hp->Addr->β->Prop}
abbrev sLvl:Stmt:=top 95
inductive spLvl (vs:List V)(H:Hp)(Q:VK)(u3:XK):Prop
 |mk (l:Addr)(its:List Itm)(_:vs=[.ref l])(_:LAt ItAt H l its)(_:its≠[])(_:its.length<=900)(_:∀r H',Same H H'->H r=none->LAt ItAt (dif H H') r (lvs its)->Q (.ref r) H')
def xn (F:Fun K "leveled" "leveled" sLvl f fd)(T:TxD K mg c BT):FnOk P w K mg base CX0 1 f fd ["items"] spLvl:=by
 have sc:FnScope ["items","told","first","level","far","sign","words"] ["items"] (ad sLvl):=mkS;refine F.oks sc λ{_ _ _ s _ _}H Q hr h=>?_;obtain⟨l,its,rfl,⟨ts,el,hts⟩,hne,hil,q⟩:=h;refine ap (xbc (xst (i:=1) sc.nd (xlst xa0))
  (xbc (xst (i:=2) sc.nd (xix aB (xix ax (xv 0) xint (λ_ _=>rfl)) xint (λ_ _=>rfl)))
  (xbc (xst (i:=3) sc.nd (xun fV xint))
  (xbc (xfor PassesOwn.never rfl (xil (xv 0)) (xgt rfl (xgsc (xgm (i:=4) sc.nd) (xgsc (xgm (i:=5) sc.nd) (xgsc (xgm (i:=6) sc.nd) xgs0))))
  (xbc (xst (i:=3) sc.nd (xcB (ky rfl) T.u11 rfl (xac (xcB (jA rfl) T.z11 rfl (xac xint (xac (xop cx (xop bp (xv 4) (xv 2)) xint) xa0))) (xac (xop bp (xgI T.z15) xint) (xac (xop au (xv 3) xint) xa0)))))
  (xb1 (aZ (xmA (xv 1) (xac (xtup (xac (xv 3) (xac (xv 5) (xac (xv 6) xa0)))) xa0))))))
  (xb1 (xret (xv 1))))))) ?_
 rw[xT];have htl:=hts.len;refine⟨bg0,λX hX=>?_⟩;have s1:=ac hX (.lst []);have e1:upd H X (.lst []) X=some (.lst []):=aa
 left
 generalize upd H X (.lst [])=H1 at s1 e1 ⊢;obtain⟨x0,ir,rfl⟩:∃x0 ir,its=x0::ir:=by cases its with |nil=>exact absurd rfl hne |cons a b=>exact⟨a,b,rfl⟩
 obtain⟨t0,tr,rfl⟩:∃t0 tr,ts=t0::tr:=by cases ts with |nil=>cases htl |cons a b=>exact⟨a,b,rfl⟩
 refine⟨_,rfl,l,_,0,_,rfl,rfl,SqL.of (s1 _ _ el),am (j:=0) rfl,t0,_,0,_,rfl,rfl,SqT.of (s1 _ _ hts.1),am (j:=0) rfl,?_⟩
 left
 refine⟨1,rfl,?_⟩
 left
 refine⟨_,rfl,l,rfl,⟨_,SqL.of (s1 _ _ el)⟩,?_⟩;refine cw (xs:=(t0::tr).map V.ref) (λi σ H'=>∃(pv:Nat) (x4 x5 x6:Option V) (rs:List Addr) (dn:List Itm),σ=[some (.ref l),some (.ref X),some (.int (x0.1:Int)),some (.int ((pv:Int) - 1)),x4,x5,x6]/\Same H H'/\H' X=some (.lst (rs.map V.ref))/\(NewQ H [X] H' λG=>Ls (ItAt G) rs dn)/\dn++lvR x0.1 pv ((x0::ir).drop i)=lvs (x0::ir)/\rs.length=i) ⟨0,none,none,none,[],[],rfl,s1,e1,NewQ.triv trivial,rfl,rfl⟩ ?_ ?_ ?_
 ·rintro i σ H3 _ ⟨_,_,_,_,_,_,_,s3,_⟩;exact SqL.of (s3 _ _ el)
 ·rintro i v σ H3 hv ⟨pv,x4,x5,x6,rs,dn,rfl,s3,eX,hn,hrun,hrl⟩;obtain⟨t,x,rfl,hx,hdr,hit⟩:=hts.get hv;have hlt:=(List.getElem?_eq_some_iff.mp hx).1;rw[hdr] at hrun;refine⟨t,_,rfl,SqT.of (s3 _ _ hit),rfl,_,_,rfl,_,_,rfl,_,_,rfl,rfl,?_⟩
  left
  refine⟨_,rfl,_,rfl,_,_,rfl,rfl,_,_,rfl,rfl,⟨by decide,by decide⟩,_,_,rfl,_,_,rfl,rfl,_,rfl,_,_,rfl,rfl,_,_,_,rfl,?_⟩
  left
  have elv:min (min (if ((x.1:Int) - (x0.1:Int)) / 2 > 0 then ((x.1:Int) - (x0.1:Int)) / 2 else 0) (6 - 1)) ((pv:Int) - 1+1)=((lvl x0.1 pv x.1:Nat):Int):=by
   unfold lvl;split <;> omega
  rw[elv];refine⟨_,rfl, .inl ⟨rfl,_,SqL.of eX⟩,_,rfl,_,rfl,_,rfl,bg3,λt2 ht2=>?_⟩;have s4:=ac ht2 (.tup [.int ((lvl x0.1 pv x.1:Nat):Int),vS [x.2.1],vS x.2.2]);refine⟨X,_,_,rfl,rfl,s4 _ _ eX,by rw[l0,sizeLine_eq];omega,?_⟩;refine⟨lvl x0.1 pv x.1+1,some (.int (x.1:Int)),some (vS [x.2.1]),some (vS x.2.2),rs++[t2],dn++[(lvl x0.1 pv x.1,x.2.1,x.2.2)],?_,af hX (s3.trans s4),by rw[aa,l15];rfl,?_,by rw[l18];exact hrun,by rw[l6,hrl];rfl⟩
  ·rw[show (((lvl x0.1 pv x.1+1:Nat):Int) - 1)=((lvl x0.1 pv x.1:Nat):Int) by omega]
  ·refine NewQ.upd ?_ l8;refine NewQ.join (hn.same s4) (NewQ.of (H3:=H3) (R:=λG=>ItAt G t2 (lvl x0.1 pv x.1,x.2.1,x.2.2)) s3 (λb' hb' z=>?_) ?_) (λG G' s h=>h.mono λa x=>gK _ _ _ _ s) (λG G' s h=>gK _ _ _ _ s h) λG h1 h2=>h1.snoc h2
   ·rw[l14.mp hb',eX] at z;cases z
   ·show dif _ _ _=_;rw[ar ht2];exact aa
 ·rintro σ H3 ⟨pv,x4,x5,x6,rs,dn,rfl,s3,eX,hn,hrun,hrl⟩;rw[l0,htl,l45] at hrun;have hrun:dn++[]=_:=hrun;refine⟨_,rfl,q X H3 s3 hX ⟨rs,by rw[ar hX];exact eX,?_⟩⟩;rw[<- hrun,l17];exact hn.dif λG G' s h=>h.mono λa x=>gK _ _ _ _ s
abbrev qm:Stmt:=top 94
inductive spListA (c:Cb)(R:Hp->Addr->β->Prop)(vs:List V)(H:Hp)(Q:VK)(u3:XK):Prop
 |mk (rs i d)(_:RwAt vs H rs i d)(_:bJ (aY (decide (d < 4)) (rs.drop i))=k0)(_:FndB c R H Q (.lst (entR 6 (lvs (itR (decide (d < 4)) (rs.drop i).length (rs.drop i)).1)).1) (i+(itR (decide (d < 4)) (rs.drop i).length (rs.drop i)).2))
def eV {k:Nat}(hk:6<=k)(mR:MoR R)(F:Fun K "list_at" "list_at" qm f fd)(T:TxD K mg c BT)(Da:Def P w K mg base 5 "sort_at" p5 (spSortAt K))(Dd:Def P w K mg base 6 "further_words" p5 spFurther)(Dt:Def P w K mg base 1 "leveled" ["items"] spLvl)(Yc:Def P w K mg base k "entries_from" p8 (spEnt c 6))(Dv:New P w K mg base 1 "Listing" c.Listing p18 (spInitL c.Listing "entries")):FnOk P w K mg base CX0 (k+1) f fd p5 (spListA c R):=by
 have sc:FnScope ["rows","place","deep","items","sort","words"] p5 (ad qm):=mkS;refine F.oks sc λ{_ _ _ s _ _}H Q hr h=>?_;obtain⟨rs,i,d,⟨l,rfl,el,hok⟩,hkd,q⟩:=h;refine ap (xbc (xst (i:=3) sc.nd (xlst xa0))
  (xbc (xst (i:=4) sc.nd (xcd Da hr (xac (xv 0) (xac (xv 1) (xac (xv 2) xa0)))))
  (xbc (cU PassesOwn.never (ay bx (xix aB (xv 4) xint (λ_ _=>rfl)) xstr (al _))
  (xbc (xst (i:=5) sc.nd (xop bM (xlst (xac (xix aB (xv 4) xint (λ_ _=>rfl)) xa0)) (xcd Dd hr (xac (xv 0) (xac (xop au (xv 1) xint) (xac (xv 2) xa0))))))
  (xbc (aZ (xmA (xv 3) (xac (xtup (xac (xix aB (xv 4) xint (λ_ _=>rfl)) (xac (xix aB (xv 4) xint (λ_ _=>rfl)) (xac (xm plainAttrs_str slot_str_join type_str_join bz xstr (xac (xv 5) xa0)) xa0)))) xa0)))
  (xbc (xaug (i:=1) sc.nd rfl (Or.inl rfl) (xcB aj T.u10 PySem.boot_len (xac (xv 5) xa0)) fT)
  (xb1 (xst (i:=4) sc.nd (xcd Da hr (xac (xv 0) (xac (xv 1) (xac (xv 2) xa0))))))))))
  (xb1 (xret (xtup (xac (xnew Dv hr.mono (xac (xix aB (xcd Yc hr (xac (xcd Dt hr (xac (xv 3) xa0)) (xac xint (xac xint xa0)))) xint (λ_ _=>rfl)) xa0)) (xac (xv 1) xa0)))))))) ?_
 rw[wx];generalize hq:decide (d < 4)=qq at hkd q;have hrl:=hok.len;refine⟨bg0,λX hX=>?_⟩;have s1:=ac hX (.lst []);have e1:upd H X (.lst []) X=some (.lst []):=aa
 left
 generalize upd H X (.lst [])=H1 at s1 e1 ⊢;refine⟨_,rfl,_,rfl,_,rfl,l,rs,i,d,rfl,s1 _ _ el,hok,λp H2 s2 hp=>?_⟩;rw[hq] at hp
 left
 refine bm (λσ H'=>∃(x4 x5:Option V) (ts:List Addr),σ=[some (.ref l),some (.int ((i+(itR qq (rs.drop i).length (rs.drop i)).2:Nat):Int)),some (.int d),some (.ref X),x4,x5]/\Same H H'/\H' X=some (.lst (ts.map V.ref))/\(NewQ H [X] H' λG=>Ls (ItAt G) ts (itR qq (rs.drop i).length (rs.drop i)).1)/\OkI (itR qq (rs.drop i).length (rs.drop i)).1) (λN hN=>?_) ?_;rotate_left
 ·rintro σ H' ⟨x4,x5,ts,rfl,s',eX,hn,hoi⟩;have hne:(itR qq (rs.drop i).length (rs.drop i)).1≠[]:=by
   obtain⟨a,b,x,e⟩:=kv hkd;cases hd:rs.drop i with
   |nil=>rw[hd] at e;cases e
   |cons r rr=>
    rw[hd] at e;rw[l4,itR,e];simp
  generalize (itR qq (rs.drop i).length (rs.drop i))=z at hne hn hoi q;obtain⟨its,n⟩:=z;obtain⟨ho1,ho2⟩:=hoi.lvs;refine⟨_,rfl,X,its,rfl,⟨ts,eX,?_⟩,hne,hoi.1,λr H3 s3 hr3 hl3=>?_⟩
  ·obtain⟨G,g1,_,_,g2⟩:=hn;exact g2.mono λa x=>gK _ _ _ _ g1
  refine⟨r,lvs its,0,rfl,hl3.same gK dif_same,ho1,ho2,λt r2 H4 s4 et hl4=>?_⟩;obtain⟨bs,er,hbs⟩:=hl4;refine⟨t,_,0,_,rfl,rfl,SqT.of et,am (j:=0) rfl,λy dx hy hd' hyd=>⟨y,dx,r2,_,rfl,aa,ini0 hy hd' _ _ (dif_same _ _ er),λp2 H6 hp2 kx e6p e6y=>⟨rfl,?_⟩⟩⟩;have s46:=ini hy hd' kx;have s04:=(s'.trans s3).trans s4;have hp2':H4 p2=none:=(ini0 hy hd').free hp2;exact⟨_,rfl,bg2,λt ht=>q.tup mR (s04.trans s46) ⟨dx,p2,by rw[ar (s04.free hy)];exact e6y,bs,by rw[ar (s04.free hp2')];exact e6p,hbs.mono λa x=>eH 6 _ _ _ _ (av (s'.trans s3) s46)⟩ ht rfl⟩
 refine cA (λm σ H'=>∃(p:Addr) (x5:Option V) (p' k':Nat) (ts:List Addr) (dn:List Itm),σ=[some (.ref l),some (.int (p':Int)),some (.int d),some (.ref X),some (.ref p),x5]/\Same H H'/\H' X=some (.lst (ts.map V.ref))/\(NewQ H [X] H' λG=>Ls (ItAt G) ts dn)/\SrtAt K H' p (aY qq (rs.drop p'))/\dn++(itR qq k' (rs.drop p')).1=(itR qq (rs.drop i).length (rs.drop i)).1/\p'+(itR qq k' (rs.drop p')).2=i+(itR qq (rs.drop i).length (rs.drop i)).2/\rs.length - p'<=k'/\dn.length<=p'/\(dn≠[]->p'<=900)/\(∀x∈dn,(x.2.1=43 ∨ x.2.1=45)/\x.2.2.length<=900/\Asc x.2.2)/\m=rs.length - p') (rs.length - i) ⟨p,none,i,(rs.drop i).length,[],[],rfl,s1.trans s2,s2 _ _ e1,NewQ.triv trivial,hp,rfl,rfl,by rw[l13];exact l5 _,l10 _,λz=>absurd rfl z,(λ_ z=>nomatch z),rfl⟩ ?_;rintro m σ H3 ⟨p,x5,p',k',ts,dn,rfl,s3,eX,hn,hp,hrun,hend,hk',hdl,hd9,hdn,rfl⟩;have htl:ts.length=dn.length:=let ⟨_,_,_,_,h⟩:=hn;h.len
 refine⟨_,aF k0 rfl hp,λz H4 s4=>?_,λz H4 s4=>?_⟩
 ·obtain⟨far,sg,wd,hs⟩:=kv (of_decide_eq_true z);have hlt:p' < rs.length:=by
   by_cases h:p' < rs.length
   ·exact h
   ·rw[l41 nofun] at hs;cases hs
  obtain⟨k2,rfl⟩:∃k2,k'=k2+1:=⟨k' - 1,by omega⟩;have eit:itR qq (k2+1) (rs.drop p')=((far,sg,ao [32] (wd::bo qq (rs.drop p')))::(itR qq k2 ((rs.drop p').drop (1+(bo qq (rs.drop p')).length))).1,1+(bo qq (rs.drop p')).length+(itR qq k2 ((rs.drop p').drop (1+(bo qq (rs.drop p')).length))).2):=by rw[itR,hs]
  rw[eit] at hrun hend;rw[hs] at hp;have hsz:SzS (rs[p']).length (.item far sg wd)/\AscS (.item far sg wd):=by
   rw[l28 hlt] at hs;have h1:=cN qq rs[p'];have h2:=ci (q:=qq) (hok.asc _ (l43 hlt));rw[show srtQ qq rs[p']=_ from hs] at h1 h2;exact⟨h1,h2⟩
  have hsm:SmR (wd::bo qq (rs.drop p')):=(hok.drop p').more (by intro z;rw[l28 hlt] at z;cases z) λr hr'=>by
   rw[l28 hlt] at hr';cases hr';exact⟨hsz.1.2,hsz.2.2⟩
  have hml:(bo qq (rs.drop p')).length<=rs.length - (p'+1):=by
   have:=ip (f:=cM) (q:=qq) ((rs.drop p').drop 1);rw[l13,l13] at this;unfold bo;omega
  have hp4:=s4 _ _ hp;refine⟨_,rfl,p,_,3,_,rfl,rfl,SqT.of hp4,am (j:=3) rfl,bg1,λa ha=>?_⟩;have s34:=s3.trans s4;refine⟨_,rfl,_,rfl,_,_,rfl,rfl,_,rfl,l,rs,p'+1,d,rfl,(s34.trans (ac ha _)) _ _ el,hok,λb H5 s5 hb eb=>?_⟩;have e:tkW cM (decide (d < 4)) (rs.drop (p'+1))=bo qq (rs.drop p'):=by unfold bo;rw[l27,hq]
  rw[e] at eb;generalize bo qq (rs.drop p')=ms at hsm eb hrun hend hml;have ea2:=s5 _ _ (aa (H:=H4) (a:=a) (o := .lst [vS wd]));refine⟨a,b,_,_,rfl,rfl,ea2,eb,?_,λY hY=>?_⟩
  ·have:=hsm.len;rw[l4] at this;rw[l0,sizeLine_eq];show 1+_<=_;omega
  left
  have s46:=((ac ha (.lst [vS wd])).trans s5).trans (ac hY (.lst ([vS wd]++ms.map vS)));have eY:upd H5 Y (.lst ([vS wd]++ms.map vS)) Y=some (.lst ((wd::ms).map vS)):=aa;generalize upd H5 Y (.lst ([vS wd]++ms.map vS))=H6 at s46 eY ⊢;have hp6:=s46 _ _ hp4;have eX6:=s46 _ _ (s4 _ _ eX);have hg:=hsm.glue;refine⟨_,rfl, .inl ⟨rfl,_,SqL.of eX6⟩,_,rfl,p,_,1,_,rfl,rfl,SqT.of hp6,am (j:=1) rfl,_,rfl,p,_,2,_,rfl,rfl,SqT.of hp6,am (j:=2) rfl,rfl,_,rfl,S [32],Y,(wd::ms).map S,rfl,rfl,SqL.of (by rw[eY,ck]),hsm.fit,?_⟩;rw[bD];refine⟨bg3,λt2 ht2=>?_⟩;have s7:=ac ht2 (.tup [.int far,vS [sg], .str (S (ao [32] (wd::ms)))]);refine⟨X,_,_,rfl,rfl,s7 _ _ eX6,by rw[l0,sizeLine_eq];omega,?_⟩;have s47:=s46.trans s7;have hXY:Y≠X:=λz=>by rw[z,eX6] at eY;exact absurd (congrArg (λo=>match o with |some (HO.lst (v::_))=>some v |_=>none) eY) (by cases ts <;> simp[vS])
  have sU:Same H (upd (upd H6 t2 (.tup [.int far,vS [sg], .str (S (ao [32] (wd::ms)))])) X (.lst (ts.map V.ref++[.ref t2]))):=af hX (s34.trans s47);have eYU:upd (upd H6 t2 (.tup [.int far,vS [sg], .str (S (ao [32] (wd::ms)))])) X (.lst (ts.map V.ref++[.ref t2])) Y=some (.lst ((wd::ms).map vS)):=(ag hXY).trans (s7 _ _ eY);refine⟨_,rfl,_,rfl,Y,_,rfl, .inl (SqL.of eYU),_,_,rfl,rfl,?_⟩
  left
  refine⟨_,rfl,_,rfl,_,rfl,l,rs,p'+(1+ms.length),d,?_,sU _ _ el,hok,λp3 H8 s8 hp8=>?_⟩
  ·rw[l0,l4,l52 1];rfl
  left
  rw[hq] at hp8;have elen:(p':Int)+(((wd::ms).map vS).length:Nat)=((p'+(1+ms.length):Nat):Int):=by rw[l0,l4];omega
  rw[elen];refine⟨_,(show rs.length - (p'+(1+ms.length)) < rs.length - p' by omega),p3,some (.ref Y),p'+(1+ms.length),k2,ts++[t2],dn++[(far,sg,ao [32] (wd::ms))],rfl,sU.trans s8,s8 _ _ (by rw[aa,l15];rfl),?_,hp8,?_,?_,by omega,by rw[l6];show _+1<=_;omega,λ_=>by omega,λx hx=>?_,rfl⟩
  ·refine NewQ.same ?_ s8;refine NewQ.upd ?_ l8;refine NewQ.join (((hn.same s4).same s46).same s7) (NewQ.of (H3:=H6) (R:=λG=>ItAt G t2 (far,sg,ao [32] (wd::ms))) (s34.trans s46) (λb' hb' z=>?_) ?_) (λG G' s h=>h.mono λa x=>gK _ _ _ _ s) (λG G' s h=>gK _ _ _ _ s h) λG h1 h2=>h1.snoc h2
   ·rw[l14.mp hb',eX6] at z;cases z
   ·show dif _ _ _=_;rw[ar ht2];exact aa
  ·rw[l18,<- l27];exact hrun
  ·rw[<- l27];have hend:p'+(1+ms.length+(itR qq k2 ((rs.drop p').drop (1+ms.length))).2)=_:=hend;omega
  ·rcases l21.mp hx with z |z
   ·exact hdn x z
   ·rw[l14.mp z];exact⟨hsz.1.1,hg.1,hg.2⟩
 ·have hstop:itR qq k' (rs.drop p')=([],0):=by
   have hz:=of_decide_eq_false z;cases k' with
   |zero=>rfl
   |succ k2=>
    rw[itR];split
    ·rename_i e;rw[e] at hz;exact absurd rfl hz
    ·rfl
  rw[hstop] at hrun hend;have hrun:dn++[]=_:=hrun;have hend:p'+0=_:=hend;rw[l17] at hrun;refine hN _ _ ⟨some (.ref p),x5,ts,?_,s3.trans s4,s4 _ _ eX,?_,?_⟩
  ·rw[<- hend];rfl
  ·rw[<- hrun];exact hn.same s4
  ·rw[<- hrun];refine⟨?_,hdn⟩;by_cases hz:dn=[]
   ·rw[hz];exact l10 _
   ·have:=hd9 hz;omega
end
def Zs {α γ:Type}(P:α->γ->Prop):List α->List γ->Prop
 | [],[]=>True
 |a::as,b::bs=>P a b/\Zs P as bs
 |_,_=>False
theorem Zs.len {α γ:Type}{P:α->γ->Prop}:∀{as:List α} {bs:List γ},Zs P as bs->as.length=bs.length
 | [],[],_=>rfl
 |_::_,_::_,h=>congrArg (· + 1) h.2.len
theorem Zs.mono {α γ:Type}{P P':α->γ->Prop}(k:∀a b,P a b->P' a b):∀{as:List α} {bs:List γ},Zs P as bs->Zs P' as bs
 | [],[],_=>trivial
 |_::_,_::_,h=>⟨k _ _ h.1,h.2.mono k⟩
theorem Zs.all {α γ:Type}{P:α->γ->Prop}{Pr:α->Prop}:∀{as:List α} {bs:List γ},(∀a b,b∈bs->P a b->Pr a)->Zs P as bs->∀a∈as,Pr a
 | [],[],_,_=>λ_ z=>nomatch z
 |_::_,_::_,k,h=>λa ha=>(l9.mp ha).elim (λz=>z▸k _ _ l8 h.1) (h.2.all (λa b hb=>k a b (l7 _ hb)) a)
theorem jo {α γ:Type}{Q:Addr->α->Prop}{P:α->γ->Prop}:∀{as:List Addr} {zs:List γ},Ls (λa z=>∃x,Q a x/\P x z) as zs->∃xs,Ls Q as xs/\Zs P xs zs
 | [],[],_=>⟨[],trivial,trivial⟩
 |_::_,_::_,h=>let ⟨x,h1,h2⟩:=h.1;let ⟨xs,h3,h4⟩:=jo h.2;⟨x::xs,⟨h1,h3⟩,h2,h4⟩
theorem jp {α γ:Type}{Q:Addr->α->Prop}{P:α->γ->Prop}{R:Addr->γ->Prop}(k:∀a x z,Q a x->P x z->R a z):∀{as:List Addr} {xs:List α} {zs:List γ},Ls Q as xs->Zs P xs zs->Ls R as zs
 | [],[],[],_,_=>trivial
 |_::_,_::_,_::_,h1,h2=>⟨k _ _ _ h1.1 h2.1,jp k h1.2 h2.2⟩
def PX (c:Cp)(G:Hp)(xs:List V)(ps:List PC):Prop:=∃as:List Addr,xs=as.map V.ref/\PCs c G as ps
def PX.same {c:Cp}{G G':Hp}{xs:List V}{ps:List PC}(s:Same G G')(h:PX c G xs ps):PX c G' xs ps:=let ⟨as,e,k⟩:=h;⟨as,e,k.same s⟩
def tT {c:Cp}{G:Hp}{r:Addr}{cs:List (List PC)}(h:LAt (PL c) G r cs):∃hss,LV G r hss/\Zs (PX c G) hss cs:=by
 obtain⟨as,e,k⟩:=h;obtain⟨xs,h1,h2⟩:=jo (Q:=λa x=>G a=some (.lst x)) (P:=PX c G) (k.mono λa ps ⟨bs,e,k⟩=>⟨bs.map V.ref,e,bs,rfl,k⟩);exact⟨xs,⟨as,e,h1⟩,h2⟩
def tU {c:Cp}{G:Hp}{as:List Addr}{ls:List (List (List PC))}(k:Ls (LAt (PL c) G) as ls):∃lss,Ls (LV G) as lss/\Zs (Zs (PX c G)) lss ls:=
 jo (Q:=λa x=>LV G a x) (P:=Zs (PX c G)) (k.mono λa cs h=>tT h)
def tV {c:Cp}{G:Hp}{r:Addr}{hss:List (List V)}{cs:List (List PC)}(h:LV G r hss)(k:Zs (PX c G) hss cs):LAt (PL c) G r cs:=
 let ⟨as,e,h1⟩:=h;⟨as,e,jp (λa x z h1 ⟨bs,e2,h2⟩=>⟨bs,by rw[h1,e2],h2⟩) h1 k⟩
def xo {c:Cp}{G:Hp}{r:Addr}{lss:List (List (List V))}{ls:List (List (List PC))}(h:LAt LV G r lss)(k:Zs (Zs (PX c G)) lss ls):LAt (LAt (PL c)) G r ls:=
 let ⟨as,e,h1⟩:=h;⟨as,e,jp (Q:=LV G) (P:=Zs (PX c G)) (R:=LAt (PL c) G) (λa x z h1 h2=>tV h1 h2) h1 k⟩
def TxAt (H:Hp)(a:Addr)(ts:List (List Nat)):Prop:=H a=some (.lst (ts.map vS))
def nV:MoR TxAt:=λ_ _ _ _ s h=>s _ _ h
structure OkT (ts:List (List Nat)):Prop where
 pos:1<=ts.length
 len:ts.length<=900
 ok:∀t∈ts,t.length<=900/\Asc t
def gM:∀{ls:List (List (List Nat))} {ts:List (List Nat)},ts∈ls->ts.length<=bL ls
 |x::ls,ts,h=>by
  show _<=max x.length (bL ls);rcases l9.mp h with z |z
  ·rw[z];omega
  ·have:=gM z;omega
theorem lM:∀{ls:List (List (List Nat))},ls≠[]->∃ts∈ls,bL ls=ts.length
 | [x],_=>⟨x,l8,by show max x.length 0=_;omega⟩
 |x::y::ls,_=>by
  obtain⟨ts,h1,h2⟩:=lM (ls:=y::ls) (by simp);have e:bL (x::y::ls)=max x.length (bL (y::ls)):=rfl;by_cases h:bL (y::ls)<=x.length
  ·exact⟨x,l8,by rw[e];omega⟩
  ·exact⟨ts,l7 _ h1,by rw[e];omega⟩
section
variable {c:Cb}{BT:Addr}{β:Type}{R:Hp->Addr->β->Prop}
abbrev jq:Stmt:=top 93
inductive spCellsOf (c:Cb)(vs:List V)(H:Hp)(Q:VK)(u3:XK):Prop
 |mk (l:Addr)(ts:List (List Nat))(m:Nat)(_:vs=[.ref l, .int m])(_:TxAt H l ts)(_:OkT ts)(_:ts.length<=m)(_:m<=900)(_:∀r H',Same H H'->H r=none->LAt (PL c.cp) (dif H H') r (be m ts)->Q (.ref r) H')
def nX (F:Fun K "cells_of" "cells_of" jq f fd)(T:TxD K mg c BT)(Db:Def P w K mg base 6 "parts_of" ["text"] (spPartsOf c.cp)):FnOk P w K mg base CX0 7 f fd p26 (spCellsOf c):=by
 have sc:FnScope ["texts","columns","lacking"] p26 (ad jq):=mkS;refine F.oks sc λ{_ _ _ s _ _}H Q hr h=>?_;obtain⟨l,ts,m,rfl,el,hok,hm,hm9,q⟩:=h;refine ap (xbc (xst (i:=2) sc.nd (xop bp (xv 1) (xcB aj T.u10 PySem.boot_len (xac (xv 0) xa0))))
  (xb1 (xret (xlc0 (own:=["text"])
  (xil (xop bM (xv 0) (xop jL (xlst (xac xstr xa0)) (xv 2))))
  (λ_ _ _ _=>xgm (i:=0) (show (["text"]:List Str).Nodup by decide)) (λ_ _ _ _=>xq0) (λ_ _ _ _=>(xcd Db hr (xac (xv 0) xa0))))))) ?_
 have hs:=sizeLine_eq;have el:H l=some (.lst (ts.map vS)):=el;refine⟨_,rfl,_,rfl,l,_,rfl, .inl (SqL.of el),_,_,rfl,rfl,?_⟩
 left
 refine⟨_,rfl,bg1,λa ha=>⟨_,rfl,a,_,_,rfl,rfl,aa,?_,?_,?_,λb hb=>?_⟩⟩
 ·rw[l0];omega
 ·rw[l0];omega
 ·rw[l0,hs];show 1 * _<=_;omega
 rw[l0,show ((m:Int) - (ts.length:Int)).toNat=m - ts.length by omega,l89];have s1:=(ac ha (.lst [vS []])).trans (ac hb (.lst (List.replicate (m - ts.length) (vS []))));refine⟨l,b,_,_,rfl,rfl,s1 _ _ el,aa,by rw[l0,l32,hs];omega,λL hL=>⟨L,rfl,⟨_,SqL.of aa⟩,?_⟩⟩;have efull:ts.map vS++List.replicate (m - ts.length) (vS [])=(ts++List.replicate (m - ts.length) []).map vS:=by rw[l15,l60]
 rw[show (upd (upd (upd H a (.lst [V.str (Str.ofString "")])) b (.lst (List.replicate (m - ts.length) (V.str (Str.ofString ""))))) L (.lst (ts.map vS++List.replicate (m - ts.length) (V.str (Str.ofString "")))))=(upd (upd (upd H a (.lst [vS []])) b (.lst (List.replicate (m - ts.length) (vS [])))) L (.lst ((ts++List.replicate (m - ts.length) []).map vS))) by rw[<- efull];rfl];have s2:Same H (upd (upd (upd H a (.lst [vS []])) b (.lst (List.replicate (m - ts.length) (vS [])))) L (.lst ((ts++List.replicate (m - ts.length) []).map vS))):=s1.trans (ac (show upd (upd H a (.lst [vS []])) b (.lst (List.replicate (m - ts.length) (vS []))) L=none from hL) _);have eL:upd (upd (upd H a (.lst [vS []])) b (.lst (List.replicate (m - ts.length) (vS [])))) L (.lst ((ts++List.replicate (m - ts.length) []).map vS)) L=some (.lst ((ts++List.replicate (m - ts.length) []).map vS)):=aa;have hfull:∀t∈ts++List.replicate (m - ts.length) [],t.length<=900/\Asc t:=λt ht=>by
  rcases l21.mp ht with z |z
  ·exact hok.ok t z
  ·rw[(List.mem_replicate.mp z).2];exact⟨l10 _,λ_ y=>nomatch y⟩
 have hfl:(ts++List.replicate (m - ts.length) []).length=m:=by rw[l6,l32];omega
 have q:∀r H',Same H H'->H r=none->LAt (PL c.cp) (dif H H') r ((ts++List.replicate (m - ts.length) []).map aS)->Q (.ref r) H':=q;generalize ts++List.replicate (m - ts.length) []=fs at hfull hfl q s2 eL ⊢;generalize upd (upd (upd H a (.lst [vS []])) b (.lst (List.replicate (m - ts.length) (vS [])))) L (.lst (fs.map vS))=H2 at s2 eL ⊢;refine gD (λj b G=>PL c.cp G b (aS ((fs[j]?).getD []))) (λi b G G' s h=>fI _ _ _ _ s h) (SqL.of eL) (by rw[l0];omega) ?_ ?_
 ·intro j v hv H3 s3 C N hC;rw[List.getElem?_map] at hv;cases hj:fs[j]? with
  |none=>rw[hj] at hv;cases hv
  |some t=>
  rw[hj] at hv;cases hv;obtain⟨h1,h2⟩:=hfull t (l16 hj);refine⟨(nfLe.refl _ _ _).set ∅ _,iteT (B:=N H3) ⟨_,rfl,t,rfl,by omega,h2,λr as H4 s4 hr4 er hps=>hC r H4 s4 hr4 ⟨as,by rw[ar hr4];exact er,?_⟩⟩⟩;rw[hj];exact hps
 ·intro D H3 bs hD s3 eD hbl hbs;refine q D H3 (s2.trans s3) (s2.free hD) ⟨bs,by rw[ar (s2.free hD)];exact eD,nO (by rw[hbl,l0,l0]) λi b x hb hx=>?_⟩;rw[List.getElem?_map] at hx;obtain⟨t,ht,rfl⟩:=l44.mp hx;have:=hbs i b hb;rw[ht] at this;exact fI _ _ _ _ (av s2 (Same.refl _)) this
abbrev qo:Stmt:=top 92
inductive spTblOf (c:Cb)(R:Hp->Addr->β->Prop)(vs:List V)(H:Hp)(Q:VK)(u3:XK):Prop
 |mk (l ls)(_:vs=[.ref l])(_:LAt TxAt H l ls)(_:ls≠[])(_:ls.length<=900)(_:∀ts∈ls,OkT ts)(_:∀a H',Same H H'->BAtF c R (dif H H') a (tblR ls)->Q (.ref a) H')
def mU {H H1 H2 H3 H5 H6:Hp}{y dx h' s' l':Addr}{hss:List (List V)}{lss:List (List (List V))}{sd:List Bool}{hd:List (List PC)}{ls:List (List (List PC))}(s1:Same H H1)(s12:Same H1 H2)(s3:Same H H3)(s35:Same H3 H5)(s25:Same H2 H5)(hy:H5 y=none)(hd':H5 dx=none)(kx:KeepX y (upd (upd H5 dx (.own y)) y (.ins c.Table dx [])) H6)
  (z1:Zs (PX c.cp (dif H1 H2)) hss hd)(z2:Zs (Zs (PX c.cp (dif H3 H5))) lss ls)(d1:LV (dif (upd (upd H5 dx (.own y)) y (.ins c.Table dx [])) H6) h' hss)(d2:dif (upd (upd H5 dx (.own y)) y (.ins c.Table dx [])) H6 s'=some (.lst (sd.map λb=>vS (bH b))))(d3:LAt LV (dif (upd (upd H5 dx (.own y)) y (.ins c.Table dx [])) H6) l' lss)
  (e:H6 y=some (.ins c.Table dx [("head", .ref h'),("sides", .ref s'),("lines", .ref l')])):Same H H6/\BAtF c R (dif H H6) y (.table hd sd ls):=by
 have s56:=ini hy hd' kx;have s05:=s3.trans s35;have g:=av (s05.trans (ini0 (C:=c.Table) hy hd')) (Same.refl H6);exact⟨s05.trans s56,dx,h',s',l',by rw[ar (s05.free hy)];exact e,tV (lE _ _ _ _ g d1) (z1.mono λ_ _ h=>h.same (av s1 (s25.trans s56))),g _ _ d2,xo (d3.same lE g) (z2.mono λ_ _ h=>h.mono λ_ _ h=>h.same (av s3 s56))⟩
def LV.sm {G G':Hp}{l:Addr}{xss:List (List V)}(s:Same G G')(h:LV G l xss):LV G' l xss:=lE _ _ _ _ s h
def gN {m:Nat}{ts:List (List Nat)}(h:ts.length<=m):(be m ts).length=m:=by
 unfold be;rw[l0,l6,l32];omega
def fb (F:Fun K "table_of" "table_of" qo f fd)(T:TxD K mg c BT)(Dw:Def P w K mg base 1 "is_rule" ["text"] spRule)(Dm:Def P w K mg base 7 "cells_of" p26 (spCellsOf c))(Do:New P w K mg base 2 "Table" c.Table p23 (spInitT c.Table)):FnOk P w K mg base CX0 8 f fd ["lines"] (spTblOf c R):=by
 have sc:FnScope ["lines","columns","sides"] ["lines"] (ad qo):=mkS;refine F.oks sc λ{_ _ _ s _ _}H Q hr h=>?_;obtain⟨l,ls,rfl,⟨as,el,hls⟩,hne,hll,hok,q⟩:=h;refine ap (xbc (xset (i:=1) sc.nd rfl (Or.inr rfl) (xcB (jS rfl) T.z11 rfl (xac (xlc0 (own:=["line"])
  (xil (xv 0))
  (λ_ _ _ _=>xgm (i:=0) (show (["line"]:List Str).Nodup by decide)) (λ_ _ _ _=>xq0) (λ_ _ _ _=>(xcB cC T.u10 PySem.boot_len (xac (xv 0) xa0)))) xa0)))
  (xbc (xif (xor (ay dL (xcB aj T.u10 PySem.boot_len (xac (xv 0) xa0)) xint (al _)) (xor1 (ge (bv (xcB (mt rfl) T.g12 rfl (xac (xlc0 (own:=["text"])
  (xil (xix ax (xv 0) xint (λ_ _=>rfl)))
  (λ_ _ _ _=>xgm (i:=0) (show (["text"]:List Str).Nodup by decide)) (λ_ _ _ _=>xq0) (λ_ _ _ _=>(xcd Dw hr (xac (xv 0) xa0)))) xa0)))))).xt (xb1 (xret (xnew Do hr.mono (xac (xlst xa0) (xac (xlst xa0) (xac (xlc (cl:=[("columns",s.heap.objs.size+1)]) (own:=["line"]) (fr:=[1]) (N':=p27) rfl (kS (xs:=["columns"]) ⟨rfl,trivial⟩ ⟨rfl,rfl, .inl rfl, .inl rfl,trivial⟩ ∅) ∅ ∅ (by with_unfolding_all rfl)
  (xil (xv 0))
  (λ_ _ _ _=>xgm (i:=0) (show (p27:List Str).Nodup by decide)) (λ_ _ _ _=>xq0) (λ_ _ _ _=>(xcd Dm hr (xac (xv 0) (xac (xv 1) xa0))))) xa0)))))) xb0)
  (xbc (rO (i:=2) (own:=["text"]) sc.nd
  (xil (xix ax (xv 0) xint (λ_ _=>rfl)))
  (λ_ _ _ _=>xgm (i:=0) (show (["text"]:List Str).Nodup by decide)) (λ_ _ _ _=>xq0) (λ_ _ _ _=>(xifE (bv (xmC plainAttrs_str PySem.F.slot_str_endswith PySem.F.type_str_endswith gb (xv 0) (xac xstr xa0))) xstr xstr)))
  (xbc (xst (i:=2) sc.nd (xop bM (xv 2) (xop jL (xlst (xac xstr xa0)) (xop bp (xv 1) (xcB aj T.u10 PySem.boot_len (xac (xv 2) xa0))))))
  (xb1 (xret (xnew Do hr.mono (xac (xcd Dm hr (xac (xix ax (xv 0) xint (λ_ _=>rfl)) (xac (xv 1) xa0))) (xac (xv 2) (xac (xlc (cl:=[("columns",s.heap.objs.size+1)]) (own:=["line"]) (fr:=[1]) (N':=p27) rfl (kS (xs:=["columns"]) ⟨rfl,trivial⟩ ⟨rfl,rfl, .inl rfl, .inl rfl,trivial⟩ ∅) ∅ ∅ (by with_unfolding_all rfl)
  (xil (xsl iE (xv 0) (xo1 xint) xo0))
  (λ_ _ _ _=>xgm (i:=0) (show (p27:List Str).Nodup by decide)) (λ_ _ _ _=>xq0) (λ_ _ _ _=>(xcd Dm hr (xac (xv 0) (xac (xv 1) xa0))))) xa0)))))))))) ?_
 have hs:=sizeLine_eq;have hal:=hls.len;rw[uA];refine⟨_,rfl,l,rfl,⟨_,SqL.of el⟩,?_⟩;refine nI (λj=>((ls[j]?).map λts=>V.int (ts.length:Nat)).getD .non) (SqL.of el) (by rw[l0,hs];omega) ?_ ?_
 ·intro j x hx H2 s2 C N hC;obtain⟨a,ts,rfl,htj,_,ha⟩:=hls.get hx;refine⟨(nfLe.refl _ _ _).set ∅ _,iteT (B:=N H2) ⟨_,rfl,a,_,rfl, .inl (SqL.of (s2 _ _ ha)),?_⟩⟩;have:=hC H2 (Same.refl _);rw[htj] at this;rw[l0];exact this
 intro D H1 hD s1 eD;rw[l0,hal,bd] at eD;refine⟨D,ls.map λts=>((ts.length:Nat):Int),rfl,SqL.of (by rw[eD,l19];rfl),by rw[l0];exact List.length_pos_iff.mpr hne,λmi hmi hmax=>?_⟩;obtain⟨t9,ht9,e9⟩:=lM hne;have hm:mi=((bL ls:Nat):Int):=by
  obtain⟨ts,h1,h2⟩:=l20.mp hmi;have h3:=gM h1;have h4:=hmax _ (l86 ht9);omega
 subst hm;have hm9:bL ls<=900:=by rw[e9];exact(hok t9 ht9).len
 left
 have hcl:∀ts∈ls,ts.length<=bL ls:=λts h=>gM h;have q:∀a H',Same H H'->BAtF c R (dif H H') a (if ls.length < 2 ∨ (ls.getD 1 []).all b5=false then .table [] [] (ls.map (be (bL ls))) else .table (be (bL ls) (ls.getD 0 [])) ((ls.getD 1 []).map isR++List.replicate (bL ls - (ls.getD 1 []).length) false) ((ls.drop 2).map (be (bL ls))))->Q (.ref a) H':=q;generalize bL ls=m at hm9 hcl q;have hlA:∀{H':Hp},Same H H'->Ls (TxAt H') as ls:=λs'=>hls.mono λa x=>nV _ _ _ _ s';refine s_if (decide (ls.length < 2) || !(ls.getD 1 []).all b5) (t_or _ _ (cR (cX (K:=K) (ta:=tVar 0) (ev_v rfl) (.inl (SqL.of (s1 _ _ el)))) ev_c (eM (by rw[l0];omega))) λhz H2 s2=>j6 _ λR' k=>?_) (λH2 s2 z=>?_) λH2 s2 z=>?_
 ·have h2:=of_decide_eq_false hz;obtain⟨a1,ha1⟩:∃a1,as[1]? = some a1:=⟨_,List.getElem?_eq_getElem nofun⟩;have hat:(as.map V.ref)[1]? = some (.ref a1):=by rw[List.getElem?_map,ha1];rfl
  obtain⟨a',ts,hv,hts,_,hx⟩:=hls.get hat;cases hv;have e1:ls.getD 1 []=ts:=by rw[l23,hts];rfl
  rw[e1] at k;have hot:=hok ts (l16 hts);have s02:=s1.trans s2;refine⟨_,rfl,l,_,1,_,rfl,rfl,SqL.of (s02 _ _ el),am (j:=1) hat,a1,rfl,⟨_,SqL.of (s02 _ _ hx)⟩,?_⟩;refine nI (λj=>((ts[j]?).map λt=>V.bl (b5 t)).getD .non) (SqL.of (s02 _ _ hx)) (by rw[l0,hs];have:=hot.len;omega) ?_ ?_
  ·intro j x hx H3 s3 C N hC;rw[List.getElem?_map] at hx;obtain⟨t,ht,rfl⟩:=l44.mp hx;refine⟨(nfLe.refl _ _ _).set ∅ _,iteT (B:=N H3) ⟨_,rfl,t,rfl,by have:=(hot.ok t (l16 ht)).1;omega,λH4 s4=>?_⟩⟩;have:=hC H4 s4;rw[ht] at this;exact this
  ·intro D2 H3 hD2 s3 eD2;rw[l0,bd] at eD2;refine⟨D2,ts.map b5,rfl,SqL.of (by rw[eD2,l19];rfl),_,rfl,?_⟩;rw[List.all_map];exact k H3 s3
 ·have hc:ls.length < 2 ∨ (ls.getD 1 []).all b5=false:=by
   rw[Bool.or_eq_true] at z;rcases z with z |z
   ·exact .inl (of_decide_eq_true z)
   ·exact .inr (by simpa using z)
  rw[if_pos hc] at q;have s02:=s1.trans s2;refine⟨bg0,λp1 hp1=>⟨bg0,λp2 hp2=>?_⟩⟩;have s3:=s02.trans ((ac hp1 (.lst [])).trans (ac hp2 (.lst [])));have ep1:upd (upd H2 p1 (.lst [])) p2 (.lst []) p1=some (.lst []):=ac hp2 _ _ _ aa;have ep2:upd (upd H2 p1 (.lst [])) p2 (.lst []) p2=some (.lst []):=aa;have n1:=s02.free hp1;have n2:=(s02.trans (ac hp1 _)).free hp2;generalize upd (upd H2 p1 (.lst [])) p2 (.lst [])=H3 at s3 ep1 ep2 ⊢;refine⟨_,rfl,l,rfl,⟨_,SqL.of (s3 _ _ el)⟩,?_⟩;refine gD (λj b G=>LAt (PL c.cp) G b (be m ((ls[j]?).getD []))) (λi b G G' s h=>h.same fI s) (SqL.of (s3 _ _ el)) (by rw[l0];omega) ?_ ?_
  ·intro j v hv H4 s4 C N hC;obtain⟨a,ts,rfl,htj,_,ha⟩:=hls.get hv;have hmem:=l16 htj;refine⟨(nfLe.refl _ _ _).set ∅ _,iteT (B:=N H4) ⟨_,rfl,_,rfl,a,ts,m,rfl,(s3.trans s4) _ _ ha,hok ts hmem,hcl ts hmem,hm9,λr H5 s5 hr5 d5=>hC r H5 s5 hr5 ?_⟩⟩;rw[htj];exact d5
  intro D3 H4 bs hD3 s4 eD3 hbl hbs;have hL:Ls (LAt (PL c.cp) (dif H3 H4)) bs (ls.map (be m)):=nO (by rw[hbl,l0,l0,hal]) λi b x hb hx=>by
   rw[List.getElem?_map] at hx;obtain⟨t,ht,rfl⟩:=l44.mp hx;have:=hbs i b hb;rw[ht] at this;exact this
  obtain⟨lss,h1,h2⟩:=tU hL;refine λy dx hy hd' hyd=>⟨y,dx,p1,p2,D3,[],[],lss,rfl,aa,⟨[],(s4.trans (ini0 hy hd')) _ _ ep1,trivial⟩,l10 _,(s4.trans (ini0 hy hd')) _ _ ep2,⟨bs,ini0 hy hd' _ _ eD3,h1.mono λa x h=>h.sm (dif_same.trans (ini0 hy hd'))⟩,by rw[h2.len,l0];omega,h2.all λa b hb h=>?_,λh' s' l' H6 kx d1 d2 d3 e6=>⟨rfl,?_⟩⟩
  ·obtain⟨ts,hts,rfl⟩:=l20.mp hb;rw[h.len,gN (hcl ts hts)];omega
  ·obtain⟨sf,hb⟩:=mU (R:=R) (sd:=[]) (hd:=[]) (hss:=[]) (Same.refl H) (Same.refl H) s3 s4 (s3.trans s4) hy hd' kx trivial h2 d1 d2 d3 e6;exact q y H6 sf hb
 ·have hz:=z;rw[Bool.or_eq_false_iff] at z;have h2:=of_decide_eq_false z.1;have hc:¬ (ls.length < 2 ∨ (ls.getD 1 []).all b5=false):=by
   rintro(h |h)
   ·exact h2 h
   ·rw[h] at z;exact Bool.noConfusion z.2
  rw[if_neg hc] at q;clear hc hz z;have s02:=s1.trans s2;obtain⟨a0,ha0⟩:∃a0,as[0]? = some a0:=⟨_,List.getElem?_eq_getElem nofun⟩;have hat0:(as.map V.ref)[0]? = some (.ref a0):=by rw[List.getElem?_map,ha0];rfl
  obtain⟨_,t0,hv,ht0,_,hx0⟩:=hls.get hat0;cases hv;have e0:ls.getD 0 []=t0:=by rw[l23,ht0];rfl
  obtain⟨a1,ha1⟩:∃a1,as[1]? = some a1:=⟨_,List.getElem?_eq_getElem nofun⟩;have hat1:(as.map V.ref)[1]? = some (.ref a1):=by rw[List.getElem?_map,ha1];rfl
  obtain⟨_,t1,hv,ht1,_,hx1⟩:=hls.get hat1;cases hv;have e1:ls.getD 1 []=t1:=by rw[l23,ht1];rfl
  rw[e0,e1] at q;have m0:=l16 ht0;have m1:=l16 ht1;have ho1:=hok t1 m1;refine⟨_,rfl,l,_,1,_,rfl,rfl,SqL.of (s02 _ _ el),am (j:=1) hat1,a1,rfl,⟨_,SqL.of (s02 _ _ hx1)⟩,?_⟩;refine nI (λj=>((t1[j]?).map λt=>vS (bH (isR t))).getD .non) (SqL.of (s02 _ _ hx1)) (by rw[l0,hs];have:=ho1.len;omega) ?_ ?_
  ·intro j x hx H3 s3 C N hC;rw[List.getElem?_map] at hx;obtain⟨t,ht,rfl⟩:=l44.mp hx;have hc:=hC H3 (Same.refl _);rw[ht] at hc;have htl:=(ho1.ok t (l16 ht)).1;refine⟨(nfLe.refl _ _ _).set ∅ _,iteT (B:=N H3) ⟨_,rfl,rfl,_,_,rfl,rfl,bigS nofun,_,rfl,?_⟩⟩;rw[show Txt.endswith (S t) (Str.ofString ":")=isR t from tJ t 58];have hc:C (vS (bH (isR t))) H3:=hc;cases hb:isR t with
   |true=>rw[hb] at hc;exact iteT hc
   |false=>rw[hb] at hc;exact iteF hc
  intro D3 H3 hD3 s3 eD3;rw[l0,bd] at eD3
  left
  have s03:=s02.trans s3;have ht1m:=hcl t1 m1;refine⟨_,rfl,bg1,λb1 hb1=>⟨_,rfl,_,rfl,D3,_,rfl, .inl (SqL.of (ac hb1 _ _ _ eD3)),_,_,rfl,rfl,b1,_,_,rfl,rfl,aa,?_,?_,?_,λb2 hb2=>?_⟩⟩
  ·rw[l0];omega
  ·rw[l0];omega
  ·rw[l0,hs];show 1 * _<=_;omega
  rw[l0,show ((m:Int) - (t1.length:Int)).toNat=m - t1.length by omega,l89];have s34:=(ac hb1 (.lst [V.str (Str.ofString "left")])).trans (ac hb2 (.lst (List.replicate (m - t1.length) (V.str (Str.ofString "left")))));refine⟨D3,b2,_,_,rfl,rfl,s34 _ _ eD3,aa,by rw[l0,l32,hs];omega,λS3 hS3=>?_⟩;have esd:(t1.map λt=>vS (bH (isR t)))++List.replicate (m - t1.length) (V.str (Str.ofString "left"))=(t1.map isR++List.replicate (m - t1.length) false).map λb=>vS (bH b):=by
   rw[l15,l19,l60];rfl
  left
  rw[esd] at *;have s4:=(s03.trans s34).trans (ac hS3 (.lst ((t1.map isR++List.replicate (m - t1.length) false).map λb=>vS (bH b))));generalize hH4:upd (upd (upd H3 b1 (.lst [V.str (Str.ofString "left")])) b2 (.lst (List.replicate (m - t1.length) (V.str (Str.ofString "left"))))) S3 (.lst ((t1.map isR++List.replicate (m - t1.length) false).map λb=>vS (bH b)))=H4 at s4;have eS:H4 S3=some (.lst ((t1.map isR++List.replicate (m - t1.length) false).map λb=>vS (bH b))):=by rw[<- hH4];exact aa
  generalize t1.map isR++List.replicate (m - t1.length) false=sd at eS q;refine⟨_,rfl,l,_,0,_,rfl,rfl,SqL.of (s4 _ _ el),am (j:=0) hat0,_,rfl,a0,t0,m,rfl,s4 _ _ hx0,hok t0 m0,hcl t0 m0,hm9,λr0 H5 s5 hr0 d0=>?_⟩;obtain⟨hss,g1,g2⟩:=tT d0;have s05:=s4.trans s5;refine⟨_,rfl,_,rfl,_,rfl,l,_,rfl,SqL.of (s05 _ _ el),λL2 hL2=>⟨L2,rfl,⟨_,SqL.of aa⟩,?_⟩⟩;rw[show cutV (as.map V.ref) (some 2) none=(as.map V.ref).drop 2 from kz _ 2,<- List.map_drop] at *;have s6:=s05.trans (ac hL2 (.lst ((as.drop 2).map V.ref)));have s56:=ac hL2 (.lst ((as.drop 2).map V.ref));have eL:upd H5 L2 (.lst ((as.drop 2).map V.ref)) L2=some (.lst ((as.drop 2).map V.ref)):=aa;generalize upd H5 L2 (.lst ((as.drop 2).map V.ref))=H6 at s6 s56 eL ⊢;refine gD (λj b G=>LAt (PL c.cp) G b (be m (((ls.drop 2)[j]?).getD []))) (λi b G G' s h=>h.same fI s) (SqL.of eL) (by rw[l0,l13];omega) ?_ ?_
  ·intro j v hv H7 s7 C N hC;rw[List.map_drop,List.getElem?_drop] at hv;obtain⟨a,ts,rfl,htj,_,ha⟩:=hls.get hv;have hmem:=l16 htj;refine⟨(nfLe.refl _ _ _).set ∅ _,iteT (B:=N H7) ⟨_,rfl,_,rfl,a,ts,m,rfl,(s6.trans s7) _ _ ha,hok ts hmem,hcl ts hmem,hm9,λr H8 s8 hr8 d8=>hC r H8 s8 hr8 ?_⟩⟩;rw[List.getElem?_drop,htj];exact d8
  intro D7 H7 bs hD7 s7 eD7 hbl hbs;have hL:Ls (LAt (PL c.cp) (dif H6 H7)) bs ((ls.drop 2).map (be m)):=nO (by rw[hbl,l0,l0,l13,l13,hal]) λi b x hb hx=>by
   rw[List.getElem?_map] at hx;obtain⟨t,ht,rfl⟩:=l44.mp hx;have:=hbs i b hb;rw[ht] at this;exact this
  obtain⟨lss,h1,h3⟩:=tU hL;have s57:=s56.trans s7;refine λy dx hy hd' hyd=>⟨y,dx,r0,S3,D7,hss,_,lss,rfl,aa,g1.sm (dif_same.trans (s57.trans (ini0 hy hd'))),by rw[g2.len,gN (hcl t0 m0)];omega,((s5.trans s57).trans (ini0 hy hd')) _ _ eS,⟨bs,ini0 hy hd' _ _ eD7,h1.mono λa x h=>h.sm (dif_same.trans (ini0 hy hd'))⟩,by rw[h3.len,l0,l13];omega,h3.all λa b hb h=>?_,λh' s' l' H9 kx d1 d2 d3 e9=>⟨rfl,?_⟩⟩
  ·obtain⟨ts,hts,rfl⟩:=l20.mp hb;rw[h.len,gN (hcl ts (l58 hts))];omega
  ·obtain⟨sf,hb⟩:=mU (R:=R) (sd:=sd) s4 s5 s6 s7 s57 hy hd' kx g2 h3 d1 d2 d3 e9;exact q y H9 sf hb
end
def FndB.from {β:Type}{c:Cb}{R:Hp->Addr->β->Prop}{H H1:Hp}{Q:VK}{b:BkF β}{j:Nat}(q:FndB c R H Q b j)(mR:MoR R)(s:Same H H1):FndB c R H1 Q b j:=λt a H' s' ht e hb=>q t a H' (s.trans s') (s.free ht) e (dH mR _ _ _ _ (av s (Same.refl _)) hb)
def RlC (H:Hp)(v:V)(ts:List (List Nat)):Prop:=∃q,v = .ref q/\H q=some (.lst (ts.map vS))/\ts≠[]
def yr {H:Hp}{vs:List V}{ls:List (List (List Nat))}(h:Zp (RlC H) vs ls):∃as:List Addr,vs=as.map V.ref/\Ls (TxAt H) as ls:=by
 obtain⟨zs,rfl,rfl,hz⟩:=h
 induction zs with
 |nil=>exact⟨[],rfl,trivial⟩
 |cons z zs ih=>
  obtain⟨as,e,k⟩:=ih λx hx=>hz x (l7 _ hx);obtain⟨q,e1,e2,_⟩:=hz z l8;exact⟨q::as,by rw[l12,l12,e,e1],e2,k⟩
section
variable {c:Cb}{BT:Addr}{β:Type}{R:Hp->Addr->β->Prop}
abbrev lN:Stmt:=top 91
inductive spTableA (c:Cb)(R:Hp->Addr->β->Prop)(vs:List V)(H:Hp)(Q:VK)(u3:XK):Prop
 |mk (rs i d)(_:RwAt vs H rs i d)(_:bJ (aY (decide (d < 4)) (rs.drop i))=fD)(_:FndB c R H Q (tblR (tkW dm (decide (d < 4)) (rs.drop i))) (i+(tkW dm (decide (d < 4)) (rs.drop i)).length))
def sF {s:Srt}{ts:List (List Nat)}(h:dm s=some ts):s = .cells ts:=by cases s <;> cases h;rfl
def cY (mR:MoR R)(F:Fun K "table_at" "table_at" lN f fd)(T:TxD K mg c BT)(Da:Def P w K mg base 5 "sort_at" p5 (spSortAt K))(Yl:Def P w K mg base 8 "table_of" ["lines"] (spTblOf c R)):FnOk P w K mg base CX0 9 f fd p5 (spTableA c R):=by
 have sc:FnScope ["rows","place","deep","lines","sort"] p5 (ad lN):=mkS;refine F.oks sc λ{_ _ _ s vs _}H Q hr h=>?_;obtain⟨rs,i,d,⟨l,rfl,el,hok⟩,hkd,q⟩:=h;refine ap (xbc (xst (i:=3) sc.nd (xlst xa0))
  (xbc (xst (i:=4) sc.nd (xcd Da hr (xac (xv 0) (xac (xv 1) (xac (xv 2) xa0)))))
  (xbc (cU PassesOwn.never (ay bx (xix aB (xv 4) xint (λ_ _=>rfl)) xstr (al _))
  (xbc (aZ (xmA (xv 3) (xac (xix aB (xv 4) xint (λ_ _=>rfl)) xa0)))
  (xb1 (xst (i:=4) sc.nd (xcd Da hr (xac (xv 0) (xac (xop au (xv 1) (xcB aj T.u10 PySem.boot_len (xac (xv 3) xa0))) (xac (xv 2) xa0))))))))
  (xb1 (xret (xtup (xac (xcd Yl hr (xac (xv 3) xa0)) (xac (xop au (xv 1) (xcB aj T.u10 PySem.boot_len (xac (xv 3) xa0))) xa0)))))))) ?_
 have hne:tkW dm (decide (d < 4)) (rs.drop i)≠[]:=by
  obtain⟨ts,e⟩:=nS hkd;obtain⟨_,e2⟩:=qa (f:=dm) (q:=decide (d < 4)) (rs:=rs) (i:=i) (x:=ts) rfl (by rw[e];rfl);rw[e2];exact λz=>nomatch z
 have j9:∀ts∈tkW dm (decide (d < 4)) (rs.drop i),OkT ts:=λts h=>by
  obtain⟨r,h1,h2⟩:=mO h;have h3:=l58 h1;have h4:=cN (decide (d < 4)) r;have h5:=ci (q:=decide (d < 4)) (hok.asc r h3);have h6:=hok.row h3;rw[sF h2] at h4 h5;obtain⟨a1,a2,a3⟩:=h4;exact⟨a1,by omega,λt ht=>⟨by have:=a3 t ht;omega,h5 t ht⟩⟩
 have w6:(tkW dm (decide (d < 4)) (rs.drop i)).length<=900:=by
  have:=ip (f:=dm) (q:=decide (d < 4)) (rs.drop i);have:=(hok.drop i).len;omega
 refine jk (K:=K) (f:=dm) (Rl:=RlC) (l:=l) (rs:=rs) (i:=i) (d:=d) (σt:=[]) (Pr:=λs=>∀ts,s = .cells ts->ts≠[]) (λj ts e=>?_) rfl (λσ H p s hσ hp=>?_) (λH p s a hpr hp ha=>?_) (λ_ _ _ _ s ⟨q,e1,e2,e3⟩=>⟨q,e1,s _ _ e2,e3⟩) (λH X vs v v' a a' eX hx _ ⟨q,e1,e2,e3⟩=>⟨q,e1,?_,e3⟩) el hok λX p vs H1 s1 hX eX hz=>?_
 ·rw[ji] at e;cases hr:rs[j]? with
  |none=>rw[hr] at e;cases e
  |some r=>
   rw[hr] at e;have h4:=cN (decide (d < 4)) r;rw[show srtQ (decide (d < 4)) r = .cells ts from e] at h4;intro z;rw[z] at h4;exact absurd h4.1 ∅
 ·refine(aF fD hσ hp).eq ?_;cases s <;> rfl
 ·cases s with
  |cells w=>
   cases ha;obtain⟨q,e1,e2⟩:=hp;exact⟨_,_,e1,am (j:=1) rfl,q,rfl,e2,hpr _ rfl⟩
  |_=>cases ha
 ·refine(ag λz=>?_).trans e2;rw[z,eX] at e2;cases a' with
  |nil=>exact e3 rfl
  |cons t ts=>
   cases e2;obtain⟨b,q',h1,_⟩:=hx (vS t) l8;cases h1
 obtain⟨as,rfl,hls⟩:=yr hz;generalize tkW dm (decide (d < 4)) (rs.drop i)=ls at hne j9 w6 hls q;refine⟨_,rfl,X,ls,rfl,⟨as,eX,hls⟩,hne,w6,j9,λa H2 s2 hb=>?_⟩;refine⟨_,rfl,_,rfl,X,_,rfl, .inl (SqL.of (s2 _ _ eX)),_,_,rfl,rfl,bg2,λt ht=>q.tup mR (s1.trans s2) (dH mR _ _ _ _ (av s1 (Same.refl _)) hb) ht ?_⟩;rw[l0,hls.len];rfl
abbrev kD:Stmt:=top 85
def gO {k d:Nat}{inn:List (List Nat)->List β}{spQ:Sp}(hk:20<=k)(mR:MoR R)(F:Fun K "block_at" "block_at" kD f fd)(T:TxD K mg c BT)(Da:Def P w K mg base 5 "sort_at" p5 (spSortAt K))(Db:Def P w K mg base 6 "parts_of" ["text"] (spPartsOf c.cp))
  (Dx:New P w K mg base 1 "Heading" c.Heading p19 (spInitVL c.Heading "level" "parts"))(Dy:New P w K mg base 1 "Naming" c.Naming p21 (spInit2 c.Naming "name" "target"))(Ym:Def P w K mg base 7 "note_at" p5 (spNote c R))(Yn:Def P w K mg base 5 "literal_at" p12 (spLitA c R))
  (Yo:Def P w K mg base k "quote_at" p5 spQ)(hQ:d < 4->∀vs H Q E,spQuoteI c R inn d vs H Q E->spQ vs H Q E)(Yp:Def P w K mg base 9 "table_at" p5 (spTableA c R))(Yq:Def P w K mg base 20 "list_at" p5 (spListA c R))(Yr:Def P w K mg base 7 "para_at" p5 (spPara c R)):
  FnOk P w K mg base CX0 (k+1) f fd p5 (spBlock c R (rdF (decide (d < 4)) inn) d):=by
 have sc:FnScope ["rows","place","deep","sort"] p5 (ad kD):=mkS;refine F.oks sc λH Q hr h=>?_;obtain⟨rs,i,⟨l,rfl,el,hok⟩,q⟩:=h;refine ap (xbc (xst (i:=3) sc.nd (xcd Da hr (xac (xv 0) (xac (xv 1) (xac (xv 2) xa0)))))
  (xbc (xif (ay bx (xix aB (xv 3) xint (λ_ _=>rfl)) xstr (al _)) (xb1 (xret (xtup (xac (xnew Dx hr.mono (xac (xix aB (xv 3) xint (λ_ _=>rfl)) (xac (xcd Db hr (xac (xix aB (xv 3) xint (λ_ _=>rfl)) xa0)) xa0))) (xac (xop au (xv 1) xint) xa0))))) xb0)
  (xbc (xif (ay bx (xix aB (xv 3) xint (λ_ _=>rfl)) xstr (al _)) (xb1 (xret (xtup (xac (xnew Dy hr.mono (xac (xix aB (xv 3) xint (λ_ _=>rfl)) (xac (xix aB (xv 3) xint (λ_ _=>rfl)) xa0))) (xac (xop au (xv 1) xint) xa0))))) xb0)
  (xbc (xif (ay bx (xix aB (xv 3) xint (λ_ _=>rfl)) xstr (al _)) (xb1 (xret (xcd Ym hr (xac (xv 0) (xac (xv 1) (xac (xv 2) xa0)))))) xb0)
  (xbc (xif (ay bx (xix aB (xv 3) xint (λ_ _=>rfl)) xstr (al _)) (xb1 (xret (xcd Yn hr (xac (xv 0) (xac (xv 1) xa0))))) xb0)
  (xbc (xif (ay bx (xix aB (xv 3) xint (λ_ _=>rfl)) xstr (al _)) (xb1 (xret (xcd Yo hr (xac (xv 0) (xac (xv 1) (xac (xv 2) xa0)))))) xb0)
  (xbc (xif (ay bx (xix aB (xv 3) xint (λ_ _=>rfl)) xstr (al _)) (xb1 (xret (xcd Yp hr (xac (xv 0) (xac (xv 1) (xac (xv 2) xa0)))))) xb0)
  (xbc (xif (ay bx (xix aB (xv 3) xint (λ_ _=>rfl)) xstr (al _)) (xb1 (xret (xcd Yq hr (xac (xv 0) (xac (xv 1) (xac (xv 2) xa0)))))) xb0)
  (xb1 (xret (xcd Yr hr (xac (xv 0) (xac (xv 1) (xac (xv 2) xa0)))))))))))))) ?_
 rw[wu];refine⟨_,rfl,_,rfl,_,rfl,l,rs,i,d,rfl,el,hok,λp H1 s1 hp=>?_⟩
 left
 have tail:∀{H2:Hp} {b:BkF β} {n:Nat},Same H H2->rdF (decide (d < 4)) inn (rs.drop i)=(b,n)->FndB c R H2 Q b (i+n):=λs2 e=>by
  rw[e] at q;exact q.from mR s2
 have hrw:∀{H2:Hp},Same H H2->RwAt [.ref l, .int i, .int d] H2 rs i d:=λs2=>⟨l,rfl,s2 _ _ el,hok⟩;cases hs:aY (decide (d < 4)) (rs.drop i) with
 |heading lv w=>
  rw[hs] at hp;refine bU ((aF bF rfl hp).eq rfl) λH2 s2=>?_;have e:rdF (decide (d < 4)) inn (rs.drop i)=(.heading lv (aS w),1):=by unfold rdF;rw[hs]
  have hp2:=s2 _ _ hp;have hsz:w.length<=900/\Asc w:=by
   rw[ji] at hs;cases hr:rs[i]? with
   |none=>rw[hr] at hs;cases hs
   |some r=>
    rw[hr] at hs;have hm:=l16 hr;have h1:=cN (decide (d < 4)) r;have h2:=ci (q:=decide (d < 4)) (hok.asc r hm);have h3:=hok.row hm;rw[show srtQ (decide (d < 4)) r=_ from hs] at h1 h2;exact⟨l11 h1.2 h3,h2⟩
  refine⟨_,rfl,p,_,1,_,rfl,rfl,SqT.of hp2,am (j:=1) rfl,_,rfl,p,_,2,_,rfl,rfl,SqT.of hp2,am (j:=2) rfl,w,rfl,by omega,hsz.2,λr as H3 s3 hr3 er hps=>?_⟩;refine λy dx hy hd' hyd=>⟨y,dx,_,r,_,rfl,aa,ini0 hy hd' _ _ er,λp2 H6 hp2 kx e6p e6y=>⟨rfl,?_⟩⟩;have s36:=ini hy hd' kx;have s02:=s1.trans s2;have s03:=s02.trans s3;have hp2':H3 p2=none:=(ini0 hy hd').free hp2;exact⟨_,rfl,_,_,rfl,rfl,bg2,λt ht=>(tail (Same.refl H) e).tup mR (s03.trans s36) ⟨dx,p2,by rw[ar (s03.free hy)];exact e6y,as,by rw[ar (s03.free hp2')];exact e6p,hps.same (av s02 s36)⟩ ht rfl⟩
 |name n t=>
  rw[hs] at hp;refine aU ((aF bF rfl hp).eq rfl) λH2 s2=>bU ((aF iR rfl (hp.same s2)).eq rfl) λH2' s2'=>?_;have e:rdF (decide (d < 4)) inn (rs.drop i)=(.name n t,1):=by unfold rdF;rw[hs]
  have hp2:=(s2.trans s2') _ _ hp;refine⟨_,rfl,p,_,1,_,rfl,rfl,SqT.of hp2,am (j:=1) rfl,_,rfl,p,_,2,_,rfl,rfl,SqT.of hp2,am (j:=2) rfl,λy dx hy hd' hyd=>?_⟩;obtain⟨m1,m2⟩:=wU (C:=c.Naming) (o1 := .ins c.Naming dx [("name",vS n)]) (o := .ins c.Naming dx [("name",vS n),("target",vS t)]) (s1.trans (s2.trans s2')) hy hd';exact⟨y,dx,_,_,rfl,aa,rfl,_,rfl,_,_,rfl,rfl,bg2,λt ht=>(tail (Same.refl H) e).tup mR m1 ⟨dx,m2⟩ ht rfl⟩
 |note n w=>
  rw[hs] at hp;refine aU ((aF bF rfl hp).eq rfl) λH2 s2=>aU ((aF iR rfl (hp.same s2)).eq rfl) λH3 s3=>bU ((aF j4 rfl (hp.same (s2.trans s3))).eq rfl) λH4 s4=>?_;have s04:=s1.trans ((s2.trans s3).trans s4);exact⟨_,rfl,_,rfl,_,rfl,rs,i,d,n,w,hrw s04,hs,tail s04 (by unfold rdF;rw[hs])⟩
 |fence=>
  rw[hs] at hp;refine aU ((aF bF rfl hp).eq rfl) λH2 s2=>aU ((aF iR rfl (hp.same s2)).eq rfl) λH3 s3=>aU ((aF j4 rfl (hp.same (s2.trans s3))).eq rfl) λH4 s4=>bU ((aF cq rfl (hp.same ((s2.trans s3).trans s4))).eq rfl) λH5 s5=>?_;have s05:=s1.trans (((s2.trans s3).trans s4).trans s5);exact⟨_,rfl,_,rfl,l,rs,i,rfl,s05 _ _ el,hok,tail s05 (by unfold rdF;rw[hs,l27])⟩
 |quote x=>
  rw[hs] at hp;refine aU ((aF bF rfl hp).eq rfl) λH2 s2=>aU ((aF iR rfl (hp.same s2)).eq rfl) λH3 s3=>aU ((aF j4 rfl (hp.same (s2.trans s3))).eq rfl) λH4 s4=>aU ((aF cq rfl (hp.same ((s2.trans s3).trans s4))).eq rfl) λH5 s5=>bU ((aF cn rfl (hp.same (((s2.trans s3).trans s4).trans s5))).eq rfl) λH6 s6=>?_;have s06:=s1.trans ((((s2.trans s3).trans s4).trans s5).trans s6);have hd4:d < 4:=by
   rw[ji] at hs;cases hr:rs[i]? with
   |none=>rw[hr] at hs;cases hs
   |some r=>
    rw[hr] at hs;have hs:srtQ (decide (d < 4)) r = .quote x:=hs;by_cases h:d < 4
    ·exact h
    ·rw[decide_eq_false h] at hs;by_cases hk:bJ (aL r)=cn
     ·rw[tP hk] at hs;cases hs
     ·rw[qf hk] at hs;rw[hs] at hk;exact absurd rfl hk
  exact⟨_,rfl,_,rfl,_,rfl,hQ hd4 _ _ _ _ ⟨rs,i,hrw s06,tail s06 (by unfold rdF;rw[hs])⟩⟩
 |cells x=>
  rw[hs] at hp;refine aU ((aF bF rfl hp).eq rfl) λH2 s2=>aU ((aF iR rfl (hp.same s2)).eq rfl) λH3 s3=>aU ((aF j4 rfl (hp.same (s2.trans s3))).eq rfl) λH4 s4=>aU ((aF cq rfl (hp.same ((s2.trans s3).trans s4))).eq rfl) λH5 s5=>aU ((aF cn rfl (hp.same (((s2.trans s3).trans s4).trans s5))).eq rfl) λH6 s6=>bU ((aF fD rfl (hp.same ((((s2.trans s3).trans s4).trans s5).trans s6))).eq rfl) λH7 s7=>?_;have s07:=s1.trans (((((s2.trans s3).trans s4).trans s5).trans s6).trans s7);exact⟨_,rfl,_,rfl,_,rfl,rs,i,d,hrw s07,by rw[hs];rfl,tail s07 (by unfold rdF;rw[hs])⟩
 |item a b x=>
  rw[hs] at hp;refine aU ((aF bF rfl hp).eq rfl) λH2 s2=>aU ((aF iR rfl (hp.same s2)).eq rfl) λH3 s3=>aU ((aF j4 rfl (hp.same (s2.trans s3))).eq rfl) λH4 s4=>aU ((aF cq rfl (hp.same ((s2.trans s3).trans s4))).eq rfl) λH5 s5=>aU ((aF cn rfl (hp.same (((s2.trans s3).trans s4).trans s5))).eq rfl) λH6 s6=>aU ((aF fD rfl (hp.same ((((s2.trans s3).trans s4).trans s5).trans s6))).eq rfl) λH7 s7=>bU ((aF k0 rfl (hp.same (((((s2.trans s3).trans s4).trans s5).trans s6).trans s7))).eq rfl) λH8 s8=>?_;have s08:=s1.trans ((((((s2.trans s3).trans s4).trans s5).trans s6).trans s7).trans s8);exact⟨_,rfl,_,rfl,_,rfl,rs,i,d,hrw s08,by rw[hs];rfl,tail s08 (by unfold rdF;rw[hs])⟩
 |_=>
  rw[hs] at hp;refine aU ((aF bF rfl hp).eq rfl) λH2 s2=>aU ((aF iR rfl (hp.same s2)).eq rfl) λH3 s3=>aU ((aF j4 rfl (hp.same (s2.trans s3))).eq rfl) λH4 s4=>aU ((aF cq rfl (hp.same ((s2.trans s3).trans s4))).eq rfl) λH5 s5=>aU ((aF cn rfl (hp.same (((s2.trans s3).trans s4).trans s5))).eq rfl) λH6 s6=>aU ((aF fD rfl (hp.same ((((s2.trans s3).trans s4).trans s5).trans s6))).eq rfl) λH7 s7=>aU ((aF k0 rfl (hp.same (((((s2.trans s3).trans s4).trans s5).trans s6).trans s7))).eq rfl) λH8 s8=>?_;have s08:=s1.trans ((((((s2.trans s3).trans s4).trans s5).trans s6).trans s7).trans s8);exact⟨_,rfl,_,rfl,_,rfl,rs,i,d,hrw s08,tail s08 (by unfold rdF;rw[hs])⟩
end
structure TxF (K:Frag)(mg:Str->Option Value)(c:Cb)(dc:Addr)(BT:Addr):Prop extends TxD K mg c BT where
 g35:Inst K dc
 z35:NoAttr K dc "blocks"
section
variable {c:Cb}{BT dc:Addr}{β:Type}{R:Hp->Addr->β->Prop}
abbrev qr:Stmt:=top 19
inductive spNeedT (vs:List V)(H:Hp)(Q:VK)(u3:XK):Prop
 |mk (l:List Nat)(_:vs=[vS l])(_:9∉l)(_:∀H',Same H H'->Q (vS l) H')
def sI (F:Fun K "need_text" "need_text" qr f fd)(T:TxD K mg c BT):FnOk P w K mg base CX0 1 f fd ["thing"] spNeedT:=by
 have sc:FnScope ["thing"] ["thing"] (ad qr):=mkS;refine F.oks sc λH Q hr h=>?_;obtain⟨l,rfl,h9,q⟩:=h;refine ap (xbc (xif (ge (bv (xcB iH T.q11 rfl (xac (xv 0) (xac (xty (T:="str") T.g11 rfl) xa0))))) (xb1 oT) xb0)
  (xbc (xif (ay dM xstr (xv 0) (by with_unfolding_all rfl)) (xb1 oT) xb0)
  (xb1 (xret (xv 0))))) ?_
 refine⟨_,rfl,_,_,_,true,rfl, .str _,iI _ _,_,rfl,?_⟩;refine ite2 (λc=>absurd c ∅) (λ_=>?_);refine aU ((t_in 9 (l:=l) (ta:=tC (.str (Str.ofString "\t"))) ev_c (ev_v rfl)).eq ?_) λH1 s1=>⟨_,rfl,q H1 s1⟩;rw[Bool.eq_false_iff];intro z;exact h9 (by simpa using z)
abbrev lO:Stmt:=top 20
inductive spRowsOf (vs:List V)(H:Hp)(Q:VK)(u3:XK):Prop
 |mk (l:List Nat)(_:vs=[vS l])(_:l.length<=1000000)(_:∀r H',Same H H'->H r=none->H' r=some (.lst ((aG 10 l).map vS))->Q (.ref r) H')
def qt (F:Fun K "rows_of" "rows_of" lO f fd):FnOk P w K mg base CX0 1 f fd ["text"] spRowsOf:=by
 have sc:FnScope ["text"] ["text"] (ad lO):=mkS;refine F.oks sc λH Q hr h=>?_;obtain⟨l,rfl,hl,q⟩:=h;refine ap (xb1 (xret (xm plainAttrs_str PySem.F.slot_str_split PySem.F.type_str_split mq (xv 0) (xac xstr xa0)))) ?_;refine⟨_,rfl,rfl,S l,S [10],rfl,rfl,rfl,by rw[aA];omega,λp hp=>q p _ (ac hp _) hp ?_⟩;rw[aa,kU,l19];rfl
abbrev fP:Stmt:=meth 52 0
abbrev fQ:Stmt:=meth 52 1
def nY (F:Fun K "__init__" "Document.__init__" fP f fd)(T:TxF K mg c dc BT):FnOk P w K mg base CX0 1 f fd p11 (spInitL dc "blocks"):=by
 have sc:FnScope p11 p11 (ad fP):=mkS;refine F.oks sc λH Q hr h=>?_;obtain⟨x,dx,l,xs,rfl,e,el,q⟩:=h;refine ap (xb1 (aO (xv 0) (xcTy aD T.g10 rfl (xac (xv 1) xa0)))) ?_;refine⟨_,rfl,l,_,rfl, .inl (SqL.of el),λp hp=>⟨_,rfl,x,_,dx,_,rfl,ac hp _ _ _ e,T.g35.cls,T.z35,by decide,?_⟩⟩;have hpx:p≠x:=(nq e hp);exact q p _ hp ((bG hp).trans keep_upd) ((ag hpx).trans aa) aa
def xp (dc:Addr)(R:Hp->Addr->β->Prop)(H:Hp)(a:Addr)(bs:List β):Prop:=∃dx l,H a=some (.ins dc dx [("blocks", .ref l)])/\LAt R H l bs
inductive spDocTold (dc:Addr)(R:Hp->Addr->β->Prop)(f:β->PyData)(ok:β->Prop)(vs:List V)(H:Hp)(Q:VK)(u3:XK):Prop
 |mk (a bs)(_:vs=[.ref a])(_:xp dc R H a bs)(_:bs.length<=1000)(_:∀b∈bs,ok b)(_:∀v H',Same H H'->Dn (dif H H') v (.list (bs.map f))->Q v H')
def n0 {k:Nat}{fB:β->PyData}{ok:β->Prop}(F:Fun K "told" "Document.told" fQ f fd)(T:TxF K mg c dc BT)(hM:MV P w K mg base k "told" R ok (tellsB fB))(mR:MoR R):FnOk P w K mg base CX0 (k+1) f fd ["self"] (spDocTold dc R fB ok):=by
 have sc:FnScope ["self"] ["self"] (ad fQ):=mkS;refine F.oks sc λH Q hr h=>?_;obtain⟨a,bs,rfl,⟨dx,l,e,as,el,hls⟩,hl,hok,q⟩:=h;refine ap (xb1 (xret (xlc0 (own:=["block"])
  (xil (xfld (xv 0)))
  (λ_ _ _ _=>xgm (i:=0) (show (["block"]:List Str).Nodup by decide)) (λ_ _ _ _=>xq0) (λ_ _ _ _=>(se (k:=k) (xv 0) hr.mono))))) ?_
 have w6:=hls.len;refine⟨_,rfl,a,_,dx,_,_,rfl,e,T.g35.cls,T.z35,rfl,l,rfl,⟨_,SqL.of el⟩,?_⟩;refine cW (λi=>((bs[i]?).map fB).getD .none) (SqL.of el) (by rw[l0];omega) ?_ ?_
 ·intro i x hx H2 s2 C N hC;obtain⟨a,b,rfl,hei,_,ha⟩:=hls.get hx;obtain⟨Cc,dx,fs,sp,e1,e2,V,hsp⟩:=hM b (hok b (l16 hei)) H2 a (mR _ _ _ _ s2 ha);refine⟨(nfLe.refl _ _ _).set ∅ _,iteT (B:=N H2) ⟨_,rfl,a,Cc,dx,fs,_,sp,rfl,e1,e2,V,hsp _ _ λv H4 ⟨s4,d4⟩=>hC v H4 s4 ?_⟩⟩;rw[hei];exact d4
 ·intro D H2 hD s2 dD;rw[l0,w6,bd] at dD;exact q _ _ s2 dD
abbrev qu:Stmt:=top 82
inductive spReadT (dc:Addr)(R:Hp->Addr->β->Prop)(rdg:List (List Nat)->β×Nat)(vs:List V)(H:Hp)(Q:VK)(u3:XK):Prop
 |mk (l:List Nat)(_:vs=[vS l])(_:9∉l)(_:l.length<=100000)(_:SmR (aG 10 l))(_:∀a H',Same H H'->xp dc R (dif H H') a ((blkR rdg (aG 10 l).length 0 (aG 10 l)).map (·.1))->Q (.ref a) H')
def sJ {k:Nat}{rdg:List (List Nat)->β×Nat}(hk:5<=k)(mR:MoR R)(F:Fun K "read" "read" qu f fd)(T:TxF K mg c dc BT)(Yd:Def P w K mg base 1 "need_text" ["thing"] spNeedT)(Ye:Def P w K mg base 1 "rows_of" ["text"] spRowsOf)(Ya:Def P w K mg base k "blocks_of" p7 (spBlks R rdg 0))(Yf:New P w K mg base 1 "Document" dc p11 (spInitL dc "blocks")):FnOk P w K mg base CX0 (k+1) f fd ["text"] (spReadT dc R rdg):=by
 have sc:FnScope ["text","triples"] ["text"] (ad qu):=mkS;refine F.oks sc λH Q hr h=>?_;obtain⟨l,rfl,h9,hl,hok,q⟩:=h;refine ap (xbc (xst (i:=1) sc.nd (xcd Ya hr (xac (xcd Ye hr (xac (xcd Yd hr (xac (xv 0) xa0)) xa0)) (xac xint xa0))))
  (xb1 (xret (xnew Yf hr.mono (xac (xlc0 (own:=["triple"])
  (xil (xv 1))
  (λ_ _ _ _=>xgm (i:=0) (show (["triple"]:List Str).Nodup by decide)) (λ_ _ _ _=>xq0) (λ_ _ _ _=>(xix oU (xv 0) xint (λ_ _=>rfl)))) xa0))))) ?_
 refine⟨_,rfl,l,rfl,h9,λH1 s1=>⟨l,rfl,l11 hl ∅,λrw0 H2 s2 hr2 er2=>⟨rw0,aG 10 l,rfl,er2,hok,λr ts H3 s3 hr3 er hts=>?_⟩⟩⟩
 left
 have hbl:=jn (rdg:=rdg) (aG 10 l).length 0 (aG 10 l);have htl:=hts.len;have hwl:=hok.len;obtain⟨as,ha1,ha2,ha3⟩:=lK hts;refine⟨_,rfl,r,rfl,⟨_,SqL.of er⟩,?_⟩;refine nI (λj=>(((as.map V.ref)[j]?).getD .non)) (SqL.of er) (by rw[l0,sizeLine_eq];omega) ?_ ?_
 ·intro j x hx H4 s4 C N hC;rw[List.getElem?_map] at hx;cases hj:ts[j]? with
  |none=>rw[hj] at hx;cases hx
  |some t=>
  rw[hj] at hx;cases hx;obtain⟨a,x,p1,p2,p3⟩:=ha2 j t hj;refine⟨(nfLe.refl _ _ _).set ∅ _,iteT (B:=N H4) ⟨_,rfl,t,_,0,_,rfl,rfl,SqT.of (s4 _ _ (dif_same _ _ p3)),am (j:=0) rfl,?_⟩⟩;have:=hC H4 (Same.refl _);rw[List.getElem?_map,p1] at this;exact this
 intro D H4 hD s4 eD;have eD:H4 D=some (.lst (as.map V.ref)):=by
  rw[eD,l0,<- ha1];congr 2;apply l73;intro j;by_cases hj:j < as.length
  ·rw[List.getElem?_map,List.getElem?_range hj,l84,List.getElem?_map,List.getElem?_eq_getElem hj];rfl
  ·rw[List.getElem?_eq_none (by rw[l0,l38];omega),List.getElem?_eq_none (by rw[l0];omega)]
 refine λy dx hy hd' hyd=>⟨y,dx,D,_,rfl,aa,ini0 hy hd' _ _ eD,λp2 H6 hp2 kx e6p e6y=>⟨rfl,?_⟩⟩;have s46:=ini hy hd' kx;have s02:=s1.trans s2;have s04:=(s02.trans s3).trans s4;have hp2':H4 p2=none:=(ini0 hy hd').free hp2;exact q y H6 (s04.trans s46) ⟨dx,p2,by rw[ar (s04.free hy)];exact e6y,as,by rw[ar (s04.free hp2')];exact e6p,ha3.mono λa x=>mR _ _ _ _ (av s02 (s4.trans s46))⟩
end
end K15
namespace Lw
open PySem L2 Lm
def mV {r:List Nat}(h:aL r = .empty):emp r=true:=by unfold emp;rw[h];rfl
def sK {q:Bool}{r:List Nat}(h:srtQ q r = .empty):emp r=true:=by
 unfold srtQ at h;split at h
 ·split at h <;> cases h
 ·exact mV h
section
variable {β:Type}{q:Bool}{inn:List (List Nat)->List β}{r:List Nat}{rs:List (List Nat)}
def qv {α:Type}{f:Srt->Option α}{x:α}(h:f (srtQ q r)=some x):1<=(tkW f q (r::rs)).length:=by rw[fo h,l4];omega
def xq {k:Nat}{a b:Nat}{x:List Nat}(h:aY q rs = .item a b x):1<=(itR q (k+1) rs).2:=by
 rw[itR,h];show 1<=1+_+_;omega
def qx (h:emp r=false):1<=(rdF q inn (r::rs)).2:=by
 unfold rdF;cases hs:aY q (r::rs) with
 |empty=>rw[sK hs] at h;cases h
 |heading _ _=>exact l5 _
 |name _ _=>exact l5 _
 |note _ _=>exact Nat.le_add_right _ _
 |fence=>exact Nat.le_add_right _ _
 |quote x=>exact qv (f:=fJ) (show fJ (aY q (r::rs))=some x by rw[hs];rfl)
 |cells x=>exact qv (f:=dm) (show dm (aY q (r::rs))=some x by rw[hs];rfl)
 |item a b x=>exact xq hs
 |plain a x=>exact qv (f:=ba) (show ba (aY q (r::rs))=some x by rw[hs];rfl)
def vx (h:rs≠[]):1+(bo q rs).length<=rs.length:=by
 cases rs with
 |nil=>exact absurd rfl h
 |cons r rs=>
  have:=ip (f:=cM) (q:=q) rs;show 1+(tkW cM q rs).length<=_;rw[l4];omega
theorem tW:∀rs:List (List Nat),(litR rs).2<=rs.length/\(litR rs).1.length<=rs.length/\∀x∈(litR rs).1,x∈rs
 | []=>⟨l5 _,l5 _,λ_ z=>nomatch z⟩
 |r::rs=>by
  obtain⟨h1,h2,h3⟩:=tW rs;by_cases h:bJ (aL r)=cq
  ·rw[show litR (r::rs)=([],1) from if_pos h,l4];exact⟨by show 1<=_;omega,l10 _,λ_ z=>nomatch z⟩
  ·rw[show litR (r::rs)=(r::(litR rs).1,(litR rs).2+1) from if_neg h,l4];refine⟨by show _+1<=_;omega,by show (litR rs).1.length+1<=_;omega,λx hx=>?_⟩;rcases l9.mp hx with z |z
   ·rw[z];exact l8
   ·exact l7 _ (h3 x z)
def yt (h:SmR rs):OkI (itR q rs.length rs).1:=by
 have key:∀(k:Nat) (rs:List (List Nat)),SmR rs->(itR q k rs).1.length<=rs.length/\∀x∈(itR q k rs).1,(x.2.1=43 ∨ x.2.1=45)/\x.2.2.length<=900/\Asc x.2.2:=by
  intro k
  induction k with
  |zero=>exact λrs _=>⟨l10 _,λ_ z=>nomatch z⟩
  |succ k ih=>
   intro rs h;rw[itR];split
   ·rename_i far sg w e;have hne:rs≠[]:=λz=>by rw[z] at e;cases e
    have h1:=vx (q:=q) hne;obtain⟨i1,i2⟩:=ih (rs.drop (1+(bo q rs).length)) (h.drop _);have hz:SzS ((rs.head?).getD []).length (.item far sg w)/\AscS (.item far sg w)/\∀r,rs.head? = some r->w.length<=r.length/\Asc w:=by
     cases rs with
     |nil=>exact absurd rfl hne
     |cons r rs=>
      have a1:=cN q r;have a2:=ci (q:=q) (h.asc r l8);rw[show srtQ q r=_ from e] at a1 a2;exact⟨a1,a2,λr' hr'=>by cases hr';exact⟨a1.2,a2.2⟩⟩
    have hg:=(h.more (q:=q) (w:=w) hne hz.2.2).glue;rw[l13] at i1;refine⟨by show _+1<=_;omega,λx hx=>?_⟩;rcases l9.mp hx with z |z
    ·rw[z];exact⟨hz.1.1,hg.1,hg.2⟩
    ·exact i2 x z
   ·exact⟨l10 _,λ_ z=>nomatch z⟩
 obtain⟨a,b⟩:=key rs.length rs h;exact⟨l11 a h.len,b⟩
def tX:∀(n:Nat) (its:List Itm),OkI its->(entR n its).1.length<=its.length/\∀e∈(entR n its).1,OkE n e
 |0,_,_=>⟨l10 _,λ_ z=>nomatch z⟩
 |n+1,its,h=>by
  have key:∀(k:Nat) (its:List Itm),OkI its->(entF (entR n) (5 - n) k its).1.length<=its.length/\∀e∈(entF (entR n) (5 - n) k its).1,OkE (n+1) e:=by
   intro k
   induction k with
   |zero=>exact λ_ _=>⟨l10 _,λ_ z=>nomatch z⟩
   |succ k ih=>
    intro its h;cases its with
    |nil=>exact⟨l10 _,λ_ z=>nomatch z⟩
    |cons x r=>
     have hr:OkI r:=⟨by have:=h.1;rw[l4] at this;omega,λy hy=>h.2 y (l7 _ hy)⟩;have hd:OkI (r.drop (entR n r).2):=⟨by have:=hr.1;rw[l13];omega,λy hy=>hr.2 y (l58 hy)⟩;obtain⟨i1,i2⟩:=ih _ hd;obtain⟨j1,j2⟩:=tX n r hr;obtain⟨_,x1,x2⟩:=h.2 x l8;rw[entF];split
     ·rw[l13] at i1;refine⟨by show _+1<=_+1;omega,λe he=>?_⟩;rcases l9.mp he with z |z
      ·rw[z];exact⟨bX x2 x1,l11 j1 (by have:=hr.1;omega),j2⟩
      ·exact i2 e z
     ·exact⟨l10 _,λ_ z=>nomatch z⟩
  exact key its.length its h
def sL {m:Nat}{ts:List (List Nat)}(hm:m<=900)(hl:ts.length<=900)(h:∀t∈ts,t.length<=900/\Asc t):OkCs (be m ts):=by
 unfold be;refine⟨by rw[l0,l6,l32];omega,λps hp=>?_⟩;obtain⟨t,ht,rfl⟩:=l20.mp hp;rcases l21.mp ht with z |z
 ·exact bX (h t z).2 (h t z).1
 ·rw[(List.mem_replicate.mp z).2];exact bX (λ_ y=>nomatch y) (l10 _)
def xr {ok:β->Prop}{ls:List (List (List Nat))}(hl:ls.length<=900)(h:∀ts∈ls,ts.length<=900/\∀t∈ts,t.length<=900/\Asc t):OkBF ok (tblR (β:=β) ls):=by
 have hm:bL ls<=900:=by
  clear hl
  induction ls with
  |nil=>exact l10 _
  |cons x ls ih=>
   have h1:=ih λts hts=>h ts (l7 _ hts);have h2:=(h x l8).1;show max x.length (bL ls)<=_;omega
 have hc:∀ts∈ls,OkCs (be (bL ls) ts):=λts hts=>sL hm (h ts hts).1 (h ts hts).2;unfold tblR;split
 ·exact⟨⟨l10 _,λ_ z=>nomatch z⟩,l10 _,by rw[l0];omega,λl hl=>by obtain⟨ts,hts,rfl⟩:=l20.mp hl;exact hc ts hts⟩
 ·rename_i hn;have h2:2<=ls.length:=by
   by_cases h:ls.length < 2
   ·exact absurd (.inl h) hn
   ·omega
  have m0:ls.getD 0 []∈ls:=by rw[l23,List.getElem?_eq_getElem nofun];exact l43 _
  have m1:ls.getD 1 []∈ls:=by rw[l23,List.getElem?_eq_getElem nofun];exact l43 _
  have h3:=(h _ m1).1;exact⟨hc _ m0,by rw[l6,l0,l32];omega,by rw[l0,l13];omega,λl hl=>by obtain⟨ts,hts,rfl⟩:=l20.mp hl;exact hc ts (l58 hts)⟩
def tY {ok:β->Prop}(hin:∀xs,SmR xs->(inn xs).length<=1000/\∀b∈inn xs,ok b)(h:SmR rs):OkBF ok (rdF q inn rs).1:=by
 have hz:SzS 900 (aY q rs)/\AscS (aY q rs)/\∀w,(∃n,aY q rs = .note n w)->rs≠[]/\∀r,rs.head? = some r->w.length<=r.length/\Asc w:=by
  cases rs with
  |nil=>exact⟨trivial,trivial,λw ⟨n,e⟩=>nomatch e⟩
  |cons r rs=>
   have a1:=cN q r;have a2:=ci (q:=q) (h.asc r l8);have a3:=h.row (r:=r) l8;refine⟨?_,a2,λw ⟨n,e⟩=>⟨by simp,λr' hr'=>?_⟩⟩
   ·show SzS 900 (srtQ q r);generalize srtQ q r=s at a1;cases s with
    |empty=>trivial
    |fence=>trivial
    |quote x=>exact l11 a1 a3
    |heading l w=>exact⟨a1.1,l11 a1.2 a3⟩
    |cells ts=>exact⟨a1.1,l11 a1.2.1 a3,λt ht=>l11 (a1.2.2 t ht) a3⟩
    |note a w=>exact⟨l11 a1.1 a3,l11 a1.2 a3⟩
    |name a w=>exact⟨l11 a1.1 a3,l11 a1.2 a3⟩
    |item a b w=>exact⟨a1.1,l11 a1.2 a3⟩
    |plain a w=>exact l11 a1 a3
   ·cases hr';rw[show srtQ q r=_ from e] at a1 a2;exact⟨a1.2,a2.2⟩
 obtain⟨h1,h2,h3⟩:=hz;unfold rdF;cases hs:aY q rs with
 |heading lv w=>rw[hs] at h1 h2;exact⟨h1.1,bX h2 h1.2⟩
 |name n t=>rw[hs] at h1 h2;exact⟨⟨h2.1,l11 h1.1 ∅⟩,h2.2,l11 h1.2 ∅⟩
 |note n w=>
  obtain⟨a,b⟩:=h3 w ⟨n,hs⟩;have hg:=(h.more (q:=q) a b).glue;rw[hs] at h1 h2;exact⟨⟨h2.1,l11 h1.1 ∅⟩,bX hg.2 hg.1⟩
 |fence=>
  obtain⟨a,b,d⟩:=tW (rs.drop 1);have:=(h.drop 1).len;exact⟨by omega,λl hl=>⟨(h.drop 1).asc l (d l hl),l11 ((h.drop 1).row (d l hl)) ∅⟩⟩
 |quote x=>exact hin _ (h.tk mQ kB)
 |cells x=>
  refine xr (l11 (ip rs) h.len) λts hts=>?_;obtain⟨r,hr,e⟩:=mO hts;have a1:=cN q r;have a2:=ci (q:=q) (h.asc r hr);have a3:=h.row hr;have e:srtQ q r = .cells ts:=by
   generalize srtQ q r=s at e;cases s <;> cases e
   rfl
  rw[e] at a1 a2;exact⟨l11 a1.2.1 a3,λt ht=>⟨l11 (a1.2.2 t ht) a3,a2 t ht⟩⟩
 |item a b x=>
  have ho:=(yt (q:=q) h).lvs.1;obtain⟨e1,e2⟩:=tX 6 _ ho;exact⟨l11 e1 (l11 ho.1 ∅),e2⟩
 |empty=>have hg:=(h.tk (q:=q) eN eQ).glue;exact bX hg.2 hg.1
 |plain a x=>have hg:=(h.tk (q:=q) eN eQ).glue;exact bX hg.2 hg.1
end
theorem fR {β:Type}{rd:List (List Nat)->β×Nat}:∀(k p:Nat) (rs:List (List Nat)),(blkR rd k p rs).length<=k
 |0,_,_=>l5 _
 |_+1,_,[]=>l10 _
 |k+1,p,r::rs=>by
  rw[blkR];split
  ·exact Nat.le_succ_of_le (fR k _ _)
  ·exact Nat.succ_le_succ (fR k _ _)
theorem jr {β:Type}{rd:List (List Nat)->β×Nat}{ok:β->Prop}(h:∀rs,SmR rs->ok (rd rs).1):∀(k p:Nat) (rs:List (List Nat)),SmR rs->∀b∈(blkR rd k p rs),ok b.1
 |0,_,_,_=>λ_ z=>nomatch z
 |_+1,_,[],_=>λ_ z=>nomatch z
 |k+1,p,r::rs,hs=>λb hb=>by
  rw[blkR] at hb;split at hb
  ·exact jr h k _ rs (hs.drop 1) b hb
  ·rcases l9.mp hb with z |z
   ·rw[z];exact h _ hs
   ·exact jr h k _ _ (hs.drop _) b z
def vy:∀(n:Nat) (rs:List (List Nat)),SmR rs->OkB n (rd n rs).1
 |0,rs,h=>tY (ok:=λz:Empty=>nomatch z) (λ_ _=>⟨l10 _,λ_ z=>nomatch z⟩) h
 | n + 1, rs, h => tY (ok := OkB n) (fun xs hx => ⟨by rw[l0];exact l11 (fR _ _ _) (l11 hx.len ∅),λb hb=>by
   obtain⟨t,ht,rfl⟩:=l20.mp hb;exact jr (ok:=OkB n) (λrs hs=>vy n rs hs) _ _ _ hx t ht⟩) h
theorem gP:∀{n:Nat} {r:List Nat} {rs:List (List Nat)},emp r=false->1<=(rd n (r::rs)).2
 |0,_,_,h=>qx h
 |_+1,_,_,h=>qx h
def iu (r:List Nat):aL (62::32::r) = .quote r:=by
 have hb:∃y,aR (62::32::r)=62::y:=by
  have h1:=o7 (62::32::r);cases hl:(aR (62::32::r)).length with
  |zero=>
   have:=(jV _).mp (l74 hl) 62 l8;exact absurd this ∅
  |succ m=>rw[hl] at h1;exact⟨_,h1⟩
 obtain⟨y,hy⟩:=hb;unfold aL;simp only[];rw[hy,if_neg (by simp),if_pos (by rfl)];rfl
theorem tk_q:∀rs:List (List Nat),tkW fJ true (rs.map λr=>62::32::r)=rs
 | []=>rfl
 |r::rs=>by
  rw[l12,fo (x:=r),tk_q rs];unfold srtQ;rw[iu];rfl
def dAll (n:Nat)(rs:List (List Nat)):List PyData:=(blks n rs).map λx=>dB n x.1
def yu (n:Nat){rs:List (List Nat)}(h:rs≠[]):dAll (n+1) (rs.map λr=>62::32::r)=[.tuple [.str "quote", .list (dAll n rs)]]:=by
 cases rs with
 |nil=>exact absurd rfl h
 |cons r rs=>
  have he:emp (62::32::r)=false:=by unfold emp;rw[iu];rfl
  have hs:aY true ((r::rs).map λr=>62::32::r) = .quote r:=by
   show srtQ true (62::32::r)=_;unfold srtQ;rw[iu];rfl
  have hr:rd (n+1) ((r::rs).map λr=>62::32::r)=(BkF.quote ((blks n (r::rs)).map (·.1)),(r::rs).length):=by
   show rdF true _ _=_;unfold rdF;rw[hs,tk_q];rfl
  have hb:blks (n+1) ((r::rs).map λr=>62::32::r)=[(BkF.quote ((blks n (r::rs)).map (·.1)),0,0+(r::rs).length)]:=by
   unfold blks;rw[l0,l4,l12,blkR,if_neg (by rw[he];exact Bool.noConfusion),<- l12 (f:=λr=>62::32::r),hr];show _::blkR (rd (n+1)) rs.length _ (List.drop (rs.length+1) _)=_;rw[l41 (by rw[l0];exact l5 _)];have:∀k p,blkR (rd (n+1)) k p []=[]:=λk p=>by cases k <;> rfl
   rw[this];rfl
  unfold dAll;rw[hb];show [PyData.tuple [.str "quote", .list (((blks n (r::rs)).map (·.1)).map (dB n))]]=_;rw[l19];rfl
def NoMk (t:List Nat):Prop:=∀c∈t,c≠92/\c≠42/\c≠96/\c≠91
theorem fE:∀{t:List Nat},NoMk t->aC t=t.map Pc.sign
 | [],_=>bO
 |x::r,h=>by
  obtain⟨h1,h2,h3,h4⟩:=h x l8;have e:gv (x::r)=some (.sign x,r):=by
   show (if az (x::r) then _ else _)=_;rw[sw h1];simp only[Bool.false_eq_true,if_false,if_neg h2,if_neg h3,if_neg h4]
  rw[bW e,fE λc hc=>h c (l7 _ hc)];rfl
theorem mW:∀t:List Nat,wsGo none (t.map Pc.sign)=t.map λx=>Qc.txt [x]
 | []=>rfl
 |x::r=>by
  show toQ (.sign x)::wsGo none (r.map Pc.sign)=_;rw[mW r];rfl
theorem mX:∀(t:List Nat) (sg:List (List Nat)),mgGo sg (t.map λx=>Qc.txt [x])=bn (sg++t.map λx=>[x])
 | [],sg=>by rw[l53,l53,l17];rfl
 |x::r,sg=>by
  show mgGo (sg++[[x]]) (r.map λx=>Qc.txt [x])=_;rw[mX r,l18];rfl
theorem mY:∀t:List Nat,(t.map λx=>[x]).flatten=t
 | []=>rfl
 |x::r=>by rw[l12,l35,mY r];rfl
def cO {t:List Nat}(h:NoMk t)(hn:t≠[]):aS t=[.one (.plain (S t))]:=by
 unfold aS;rw[fE h,mW,mX,l42];unfold bn;rw[mY];cases t with
 |nil=>exact absurd rfl hn
 |cons x r=>rfl
def kE:aS []=[]:=by
 unfold aS;rw[bO];rfl
section
variable {β:Type}{j5:List Itm->List β×Nat}{lv:Nat}
def kF:∀(k:Nat) (its:List Itm),its.length<=k->∀k',its.length<=k'->entF j5 lv k its=entF j5 lv k' its
 |0,[],_,0,_=>rfl
 |0,[],_,_+1,_=>rfl
 |0,_::_,h,_,_=>absurd h (by rw[l4];omega)
 |_+1,[],_,0,_=>rfl
 |_+1,[],_,_+1,_=>rfl
 |_+1,_::_,_,0,h=>absurd h (by rw[l4];omega)
 |k+1,x::r,h,k'+1,h'=>by
  have e:=kF k (r.drop (j5 r).2) (by rw[l13];rw[l4] at h;omega) k' (by rw[l13];rw[l4] at h';omega);unfold entF;rw[e]
end
def qy (n:Nat):entR n []=([],0):=by cases n <;> rfl
def tZ {n:Nat}{x:Itm}{r:List Itm}(h:x.1+n < 6):entR n (x::r)=([],0):=by
 cases n with
 |zero=>rfl
 |succ n=>
  show entF (entR n) (5 - n) (r.length+1) (x::r)=_;rw[entF,if_neg nofun];rfl
def vz {n:Nat}{x:Itm}{r:List Itm}(h:5<=x.1+n):entR (n+1) (x::r)=((⟨decide (x.2.1=43),aS x.2.2,(entR n r).1⟩:EnF (En n))::(entR (n+1) (r.drop (entR n r).2)).1,1+(entR n r).2+(entR (n+1) (r.drop (entR n r).2)).2):=by
 have e:entR (n+1) (r.drop (entR n r).2)=entF (entR n) (5 - n) r.length (r.drop (entR n r).2):=kF _ _ (l5 _) _ (by rw[l13];omega);rw[e];show entF (entR n) (5 - n) (r.length+1) (x::r)=_;rw[entF,if_pos nofun]
def hD (x:Itm)(ds:List PyData):PyData := .tuple [.str (S (kl (decide (x.2.1=43)))), .list ((aS x.2.2).map dP), .list ds]
def fin:Nat->List (List PyData×Itm)->List PyData->List Itm->List PyData×List Itm
 |n,[],E,xs=>(E++(entR n xs).1.map (dE n),xs.drop (entR n xs).2)
 |n+1,(E',h)::sp,E,xs=>(E'++[hD h (fin n sp E xs).1]++(entR (n+1) (fin n sp E xs).2).1.map (dE (n+1)),(fin n sp E xs).2.drop (entR (n+1) (fin n sp E xs).2).2)
 |0,_::_,_,xs=>([],xs)
def fin0 (n:Nat)(E:List PyData)(xs:List Itm):fin n [] E xs=(E++(entR n xs).1.map (dE n),xs.drop (entR n xs).2):=by cases n <;> rfl
def finS (n:Nat)(E' E:List PyData)(h:Itm)(sp:List (List PyData×Itm))(xs:List Itm):fin (n+1) ((E',h)::sp) E xs=(E'++[hD h (fin n sp E xs).1]++(entR (n+1) (fin n sp E xs).2).1.map (dE (n+1)),(fin n sp E xs).2.drop (entR (n+1) (fin n sp E xs).2).2):=rfl
def clo:List (List PyData×Itm)->List PyData->List PyData
 | [],E=>E
 |(E',h)::sp,E=>E'++[hD h (clo sp E)]
def putS:Nat->List (List PyData×Itm)->List PyData->Itm->List (List PyData×Itm)
 |0,sp,E,x=>[(clo sp E,x)]
 |j+1,p::sp,E,x=>p::putS j sp E x
 |_+1,[],_,_=>[]
def mZ {x:Itm}{r:List Itm}{E:List PyData}:∀{n:Nat} {sp:List (List PyData×Itm)},sp.length<=n->x.1+n < 6->fin n sp E (x::r)=(clo sp E,x::r)
 |n,[],_,h=>by
  rw[fin0,tZ h];show (E++[],_)=(E,_);rw[l17];rfl
 |0,_::_,h,_=>absurd h (by rw[l4];omega)
 |n+1,(E',h)::sp,hl,hx=>by
  have e:=mZ (n:=n) (sp:=sp) (E:=E) (x:=x) (r:=r) (by rw[l4] at hl;omega) nofun;rw[finS,e,tZ hx];show (E'++[hD h (clo sp E)]++[],_)=(E'++[hD h (clo sp E)],_);rw[l17];rfl
def qz {E:List PyData}:∀{n:Nat} {sp:List (List PyData×Itm)},sp.length<=n->fin n sp E []=(clo sp E,[])
 |n,[],_=>by
  rw[fin0,qy];show (E++[],_)=(E,_);rw[l17];rfl
 |0,_::_,h=>absurd h (by rw[l4];omega)
 |n+1,(E',h)::sp,hl=>by
  have e:=qz (n:=n) (sp:=sp) (E:=E) (by rw[l4] at hl;omega);rw[finS,e,qy];show (E'++[hD h (clo sp E)]++[],_)=(E'++[hD h (clo sp E)],_);rw[l17];rfl
def qA {n:Nat}{x:Itm}{r:List Itm}{E:List PyData}(h:x.1+n=5):(E++(entR (n+1) (x::r)).1.map (dE (n+1)),(x::r).drop (entR (n+1) (x::r)).2)=fin (n+1) [(E,x)] [] r:=by
 rw[finS,fin0,vz nofun];show (E++hD x ((entR n r).1.map (dE n))::(entR (n+1) (r.drop (entR n r).2)).1.map (dE (n+1)),(x::r).drop (1+(entR n r).2+(entR (n+1) (r.drop (entR n r).2)).2))=(E++[hD x ([]++(entR n r).1.map (dE n))]++(entR (n+1) (r.drop (entR n r).2)).1.map (dE (n+1)),(r.drop (entR n r).2).drop (entR (n+1) (r.drop (entR n r).2)).2);rw[l42,l18,l27,Nat.add_assoc,l52 1,l75];rfl
def m4 {x:Itm}{r:List Itm}{E:List PyData}:∀{n:Nat} {sp:List (List PyData×Itm)} {j:Nat},sp.length<=n->j<=sp.length->x.1<=5->x.1+n=6+j->fin n sp E (x::r)=fin n (putS j sp E x) [] r
 |0,_,_,h,h2,h3,h4=>by omega
 |n+1,[],0,_,_,_,h=>qA nofun
 |n+1,[],j+1,_,h,_,_=>absurd h (by rw[l25];omega)
 |n+1,(E',h)::sp,0,hl,_,_,hx=>by
  have e:=mZ (n:=n) (sp:=sp) (E:=E) (x:=x) (r:=r) (by rw[l4] at hl;omega) nofun;show fin (n+1) ((E',h)::sp) E (x::r)=fin (n+1) [(clo ((E',h)::sp) E,x)] [] r;rw[<- qA nofun];rw[finS,e];rfl
 |n+1,(E',h)::sp,j+1,hl,hj,h5,hx=>by
  have e:=m4 (n:=n) (sp:=sp) (j:=j) (E:=E) (x:=x) (r:=r) (by rw[l4] at hl;omega) (by rw[l4] at hj;omega) h5 nofun;show fin (n+1) ((E',h)::sp) E (x::r)=fin (n+1) ((E',h)::putS j sp E x) [] r;rw[finS,finS,e]
theorem qB:∀{j:Nat} {sp:List (List PyData×Itm)} {E:List PyData} {x:Itm},j<=sp.length->(putS j sp E x).length=j+1
 |0,_,_,_,_=>rfl
 |j+1,[],_,_,h=>absurd h (by rw[l25];omega)
 |j+1,_::sp,E,x,h=>by
  show (putS j sp E x).length+1=_;rw[qB (by rw[l4] at h;omega)]
section
variable {α:Type}{f:Srt->Option α}{q:Bool}
def Tk (f:Srt->Option α)(q:Bool):List (List Nat)->List α->Prop
 | [],[]=>True
 |r::rs,x::xs=>f (srtQ q r)=some x/\Tk f q rs xs
 |_,_=>False
theorem Tk.len:∀{rs:List (List Nat)} {xs:List α},Tk f q rs xs->xs.length=rs.length
 | [],[],_=>rfl
 | [],_::_,h=>h.elim
 |_::_,[],h=>h.elim
 |_::rs,_::xs,h=>congrArg (· + 1) (Tk.len (rs:=rs) (xs:=xs) h.2)
theorem Tk.take {X:List (List Nat)}(hX:f (aY q X)=none):∀{rs:List (List Nat)} {xs:List α},Tk f q rs xs->tkW f q (rs++X)=xs
 | [],[],_=>gF hX
 | [],_::_,h=>h.elim
 |_::_,[],h=>h.elim
 |r::rs,x::xs,h=>by
  rw[l40,fo h.1,Tk.take hX h.2]
theorem Tk.snoc:∀{rs:List (List Nat)} {xs:List α} {r:List Nat} {x:α},Tk f q rs xs->f (srtQ q r)=some x->Tk f q (rs++[r]) (xs++[x])
 | [],[],_,_,_,k=>⟨k,trivial⟩
 | [],_::_,_,_,h,_=>h.elim
 |_::_,[],_,_,h,_=>h.elim
 |_::_,_::_,_,_,h,k=>⟨h.1,Tk.snoc h.2 k⟩
end
def qC (rs:List (List Nat))(x:Itm):Prop:=∃r0 ms w0 ws,rs=r0::ms/\srtQ true r0 = .item x.1 x.2.1 w0/\Tk cM true ms ws/\x.2.2=ao [32] (w0::ws)
def ItRows:List (List Nat)->List Itm->Prop:=λrs its=>∃gs:List (List (List Nat)×Itm),rs=(gs.map (·.1)).flatten/\its=gs.map (·.2)/\∀g∈gs,qC g.1 g.2
def ItRows.nil:ItRows [] []:=⟨[],rfl,rfl,λ_ z=>nomatch z⟩
def ItRows.snoc {rs:List (List Nat)}{its:List Itm}{g:List (List Nat)}{x:Itm}(h:ItRows rs its)(k:qC g x):ItRows (rs++g) (its++[x]):=by
 obtain⟨gs,rfl,rfl,h⟩:=h;refine⟨gs++[(g,x)],by simp,by simp,λy hy=>?_⟩;rcases l21.mp hy with z |z
 ·exact h y z
 ·rw[l14.mp z];exact k
theorem vD {X:List (List Nat)}(hX:aY true X = .empty):∀{gs:List (List (List Nat)×Itm)},(∀g∈gs,qC g.1 g.2)->cM (aY true ((gs.map (·.1)).flatten++X))=none
 | [],_=>by rw[l53,List.flatten_nil,l42,hX];rfl
 |g::gs,h=>by
  obtain⟨r0,ms,w0,ws,e,h0,_⟩:=h g l8;rw[l12,l35,e];show cM (srtQ true r0)=none;rw[h0];rfl
def qD {X:List (List Nat)}(hX:aY true X = .empty):∀(k:Nat) {gs:List (List (List Nat)×Itm)},(∀g∈gs,qC g.1 g.2)->gs.length<=k->itR true k ((gs.map (·.1)).flatten++X)=(gs.map (·.2),(gs.map (·.1)).flatten.length)
 |0,[],_,_=>rfl
 |0,_::_,_,h=>absurd h (by rw[l4];omega)
 |k+1,[],_,_=>by
  rw[l53,List.flatten_nil,l42];unfold itR;rw[hX];rfl
 |k+1,g::gs,h,hl=>by
  have ih:=qD hX k (λy hy=>h y (l7 _ hy)) (by rw[l4] at hl;omega);have hh:=vD hX (λy hy=>h y (l7 _ hy));obtain⟨r0,ms,w0,ws,e,h0,h1,h2⟩:=h g l8;obtain⟨g1,far,sg,w⟩:=g;have e:g1=r0::ms:=e;subst e;have h0:srtQ true r0 = .item far sg w0:=h0;have h2:w=ao [32] (w0::ws):=h2;obtain⟨R,hR⟩:∃R,R=(gs.map (·.1)).flatten:=⟨_,rfl⟩;rw[<- hR] at ih hh;have e1:((((r0::ms,far,sg,w)::gs).map (·.1)).flatten++X)=r0::(ms++(R++X)):=by
   rw[l12,l35,<- hR,l18];rfl
  have em:bo true (r0::(ms++(R++X)))=ws:=by
   show tkW cM true (ms++(R++X))=ws;exact Tk.take hh h1
  have ed:(r0::(ms++(R++X))).drop (1+ws.length)=R++X:=by
   rw[h1.len,l52,l75,l48]
  rw[e1];show (match srtQ true r0 with | .item far sg w=>((far,sg,ao [32] (w::bo true (r0::(ms++(R++X)))))::(itR true k ((r0::(ms++(R++X))).drop (1+(bo true (r0::(ms++(R++X)))).length))).1,1+(bo true (r0::(ms++(R++X)))).length+(itR true k ((r0::(ms++(R++X))).drop (1+(bo true (r0::(ms++(R++X)))).length))).2) |_=>([],0))=_;rw[h0,em,ed,ih];show ((far,sg,ao [32] (w0::ws))::gs.map (·.2),1+ws.length+R.length)=((far,sg,w)::gs.map (·.2),(((r0::ms,far,sg,w)::gs).map (·.1)).flatten.length);rw[h2,l12,l35,<- hR,l6,l4,h1.len];congr 1;omega
def RdX (rs:List (List Nat))(b:Bl 4):Prop:=(∃r rs',rs=r::rs'/\emp r=false)/\∀X,aY true X = .empty->rd 4 (rs++X)=(b,rs.length)
def rd4 (rs:List (List Nat)):rd 4 rs=rdF true (λxs=>(blkR (rd 3) xs.length 0 xs).map (·.1)) rs:=rfl
def fc {r:List Nat}(h:bJ (aL r)≠mE):emp r=false:=decide_eq_false h
def aW (r:List Nat):srtQ true r=aL r:=by unfold srtQ;split <;> simp_all
def RdX.list {rs:List (List Nat)}{its:List Itm}(h:ItRows rs its)(hn:its≠[]):RdX rs (.lst (entR 6 (lvs its)).1:BkF (Bl 3)):=by
 obtain⟨gs,rfl,rfl,hg⟩:=h;cases gs with
 |nil=>exact absurd rfl hn
 |cons g gs=>
  obtain⟨r0,ms,w0,ws,e,h0,h1,h2⟩:=hg g l8;have eh:((g::gs).map (·.1)).flatten=r0::(ms++(gs.map (·.1)).flatten):=by
   rw[l12,l35,e];rfl
  refine⟨⟨r0,_,eh,fc ?_⟩,λX hX=>?_⟩
  ·rw[<- aW,h0];exact λz=>nomatch z
  ·have hl:(g::gs).length<=(((g::gs).map (·.1)).flatten++X).length:=by
    have:∀{gs:List (List (List Nat)×Itm)},(∀g∈gs,qC g.1 g.2)->gs.length<=(gs.map (·.1)).flatten.length:=by
     intro gs
     induction gs with
     |nil=>intro _;exact l5 _
     |cons g gs ih=>
      intro h;obtain⟨r0,ms,w0,ws,e,_⟩:=h g l8;rw[l12,l35,l6,e,l4,l4];have:=ih λy hy=>h y (l7 _ hy);omega
    rw[l6];have:=this hg;omega
   have hi:=qD hX _ hg hl;rw[rd4];unfold rdF;rw[hi];have:aY true (((g::gs).map (·.1)).flatten++X) = .item g.2.1 g.2.2.1 w0:=by rw[eh];exact h0
   rw[this];rfl
def RdX.table {rs:List (List Nat)}{tss:List (List (List Nat))}(h:Tk dm true rs tss)(hn:rs≠[]):RdX rs (tblR tss:BkF (Bl 3)):=by
 cases rs with
 |nil=>exact absurd rfl hn
 |cons r rs=>
  cases tss with
  |nil=>exact h.elim
  |cons ts tss=>
   have hs:∃c,srtQ true r = .cells c:=by
    have h1:=h.1;generalize srtQ true r=s at h1;cases s <;> first |exact⟨_,rfl⟩ |cases h1
   obtain⟨cs,hs⟩:=hs;refine⟨⟨r,rs,rfl,fc ?_⟩,λX hX=>?_⟩
   ·rw[<- aW,hs];exact λz=>nomatch z
   ·have ht:=Tk.take (X:=X) (by rw[hX];rfl) h;rw[rd4];unfold rdF;have:aY true (r::rs++X) = .cells cs:=hs;rw[this,ht];show (_,(ts::tss).length)=_;rw[h.len];rfl
section
variable {β:Type}{rdg:List (List Nat)->β×Nat}
def lP {r:List Nat}{rs:List (List Nat)}{k p:Nat}(h:emp r=true):blkR rdg (k+1) p (r::rs)=blkR rdg k (p+1) rs:=by
 rw[blkR,if_pos h]
def lQ {r:List Nat}{rs:List (List Nat)}{k p:Nat}(h:emp r=false):blkR rdg (k+1) p (r::rs)=((rdg (r::rs)).1,p,p+(rdg (r::rs)).2)::blkR rdg k (p+(rdg (r::rs)).2) ((r::rs).drop (rdg (r::rs)).2):=by
 conv=>lhs;unfold blkR
 rw[if_neg (by rw[h];exact Bool.noConfusion)]
def qE (k p:Nat):blkR rdg k p []=[]:=by cases k <;> rfl
def lR (hpos:∀r rs,emp r=false->1<=(rdg (r::rs)).2):∀(k:Nat) (rs:List (List Nat)) (p k' p':Nat),rs.length<=k->rs.length<=k'->(blkR rdg k p rs).map (·.1)=(blkR rdg k' p' rs).map (·.1)
 |k,[],p,k',p',_,_=>by rw[qE,qE]
 |0,_::_,_,_,_,h,_=>absurd h (by rw[l4];omega)
 |_+1,_::_,_,0,_,_,h=>absurd h (by rw[l4];omega)
 |k+1,r::rs,p,k'+1,p',h,h'=>by
  rw[l4] at h h';cases e:emp r with
  |true=>
   rw[lP e,lP e];exact lR hpos k rs _ _ _ nofun nofun
  |false=>
   have hp:=hpos r rs e;rw[lQ e,lQ e,l12,l12];have hd:((r::rs).drop (rdg (r::rs)).2).length<=rs.length:=by rw[l13,l4];omega
   rw[lR hpos k _ _ k' (p'+(rdg (r::rs)).2) nofun nofun]
end
def bls4 (rs:List (List Nat)):List (Bl 4):=(blks 4 rs).map (·.1)
def m5 (k p:Nat){rs:List (List Nat)}(h:rs.length<=k):(blkR (rd 4) k p rs).map (·.1)=bls4 rs:=lR (λ_ _ h=>gP h) _ _ _ _ _ h (l5 _)
def sM:bls4 []=[]:=rfl
def js {r:List Nat}{rs:List (List Nat)}(h:emp r=true):bls4 (r::rs)=bls4 rs:=by
 show (blkR (rd 4) (rs.length+1) 0 (r::rs)).map (·.1)=_;rw[lP h];exact m5 _ _ (l5 _)
def jt {r:List Nat}{rs:List (List Nat)}(h:emp r=false):bls4 (r::rs)=(rd 4 (r::rs)).1::bls4 ((r::rs).drop (rd 4 (r::rs)).2):=by
 show (blkR (rd 4) (rs.length+1) 0 (r::rs)).map (·.1)=_;rw[lQ h,l12];have:=gP (n:=4) (rs:=rs) h;rw[m5 _ _ (by rw[l13,l4];omega)]
def RdX.bls {rs X:List (List Nat)}{b:Bl 4}(h:RdX rs b)(hX:aY true X = .empty):bls4 (rs++X)=b::bls4 X:=by
 obtain⟨⟨r,rs',e,he⟩,hr⟩:=h;have h2:=hr X hX;rw[e] at h2 ⊢;rw[l40] at h2 ⊢;rw[jt he,h2];show b::bls4 ((r::(rs'++X)).drop (r::rs').length)=_;rw[<- l40,l48]
def n6 {A B C:List (List Nat)}{a b c:Bl 4}(hA:RdX A a)(hB:RdX B b)(hC:RdX C c):bls4 (A++[]::(B++[32]::C))=[a,b,c]:=by
 have h1:srtQ true [] = .empty:=rfl;have h2:srtQ true [32] = .empty:=rfl;rw[hA.bls (X:=[]::(B++[32]::C)) h1,js ∅,hB.bls (X:=[32]::C) h2,js ∅];have:=hC.bls (X:=[]) rfl;rw[l17] at this;rw[this,sM]
def dBs (rs:List (List Nat)):List PyData:=(bls4 rs).map (dB 4)
def fe (w:List Nat):PyData := .tuple [.str "para", .list ((aS w).map dP)]
def dLit (ls:List (List Nat)):PyData := .tuple [.str "literal", .list (ls.map λl => .str (S l))]
def qF {r:List Nat}{rs:List (List Nat)}(h:emp r=true):dBs (r::rs)=dBs rs:=by unfold dBs;rw[js h]
def kG {r:List Nat}{rs:List (List Nat)}(h:aL r = .fence):dBs (r::rs)=dLit (litR rs).1::dBs (rs.drop (litR rs).2):=by
 have he:emp r=false:=fc (by rw[h];intro z;cases z);have hr:rd 4 (r::rs)=((.lit (litR rs).1:BkF (Bl 3)),1+(litR rs).2):=by
  rw[rd4];unfold rdF;have:aY true (r::rs) = .fence:=by show srtQ true r=_;rw[aW,h]
  rw[this];rfl
 unfold dBs;rw[jt he,hr,l12];show dLit (litR rs).1::(bls4 ((r::rs).drop (1+(litR rs).2))).map (dB 4)=_;rw[l52,l75]
def qG {r w:List Nat}{far:Nat}{rs:List (List Nat)}(h:aL r = .plain far w):dBs (r::rs)=fe (ao [32] (w::tkW ba true rs))::dBs (rs.drop (tkW ba true rs).length):=by
 have he:emp r=false:=fc (by rw[h];intro z;cases z);have hs:srtQ true r = .plain far w:=by rw[aW,h]
 have ht:tkW ba true (r::rs)=w::tkW ba true rs:=fo (by rw[hs];rfl);have hr:rd 4 (r::rs)=((.para (aS (ao [32] (w::tkW ba true rs))):BkF (Bl 3)),(tkW ba true rs).length+1):=by
  rw[rd4];unfold rdF;have:aY true (r::rs) = .plain far w:=hs;rw[this,ht];rfl
 unfold dBs;rw[jt he,hr,l12];show fe _::(bls4 ((r::rs).drop ((tkW ba true rs).length+1))).map (dB 4)=_;rw[l75]
def ff:Option (List (List Nat))->List (List Nat)->List (List Nat)->List PyData
 |some ls,_,rs=>dLit (ls++(litR rs).1)::dBs (rs.drop (litR rs).2)
 |none,[],rs=>dBs rs
 |none,w::ws,rs=>fe (ao [32] (w::ws++tkW ba true rs))::dBs (rs.drop (tkW ba true rs).length)
def n8 {ls ws:List (List Nat)}{r:List Nat}{rs:List (List Nat)}(h:bJ (aL r)≠cq):ff (some ls) ws (r::rs)=ff (some (ls++[r])) ws rs:=by
 have e:litR (r::rs)=(r::(litR rs).1,(litR rs).2+1):=by
  conv=>lhs;unfold litR
  rw[if_neg h]
 show dLit (ls++(litR (r::rs)).1)::dBs ((r::rs).drop (litR (r::rs)).2)=dLit (ls++[r]++(litR rs).1)::dBs (rs.drop (litR rs).2);rw[e,l18];rfl
def lS {ls ws:List (List Nat)}{r:List Nat}{rs:List (List Nat)}(h:aL r = .fence):ff (some ls) ws (r::rs)=dLit ls::ff none [] rs:=by
 have e:litR (r::rs)=([],1):=by
  unfold litR;rw[if_pos (by rw[h];rfl)]
 show dLit (ls++(litR (r::rs)).1)::dBs ((r::rs).drop (litR (r::rs)).2)=_;rw[e,l17];rfl
def n9 {ws:List (List Nat)}{r w:List Nat}{far:Nat}{rs:List (List Nat)}(h:aL r = .plain far w):ff none ws (r::rs)=ff none (ws++[w]) rs:=by
 have ht:tkW ba true (r::rs)=w::tkW ba true rs:=fo (by rw[aW,h];rfl);cases ws with
 |nil=>exact qG h
 |cons x xs=>
  show fe (ao [32] (x::xs++tkW ba true (r::rs)))::dBs ((r::rs).drop (tkW ba true (r::rs)).length)=fe (ao [32] (x::(xs++[w])++tkW ba true rs))::dBs (rs.drop (tkW ba true rs).length);rw[ht,l4,l75];have:x::xs++w::tkW ba true rs=x::(xs++[w])++tkW ba true rs:=by simp
  rw[this]
def m6:List (List Nat)->List PyData
 | []=>[]
 |w::ws=>[fe (ao [32] (w::ws))]
def qH {ws:List (List Nat)}{r:List Nat}{rs:List (List Nat)}(h:aL r = .empty):ff none ws (r::rs)=m6 ws++ff none [] rs:=by
 have ht:tkW ba true (r::rs)=[]:=gF (by show ba (srtQ true r)=none;rw[aW,h];rfl);have he:emp r=true:=mV h;cases ws with
 |nil=>exact qF he
 |cons x xs=>
  show fe (ao [32] (x::xs++tkW ba true (r::rs)))::dBs ((r::rs).drop (tkW ba true (r::rs)).length)=_;rw[ht,l17];show fe _::dBs (r::rs)=_;rw[qF he];rfl
def oa {ws:List (List Nat)}{r:List Nat}{rs:List (List Nat)}(h:aL r = .fence):ff none ws (r::rs)=m6 ws++ff (some []) [] rs:=by
 have ht:tkW ba true (r::rs)=[]:=gF (by show ba (srtQ true r)=none;rw[aW,h];rfl);cases ws with
 |nil=>exact kG h
 |cons x xs=>
  show fe (ao [32] (x::xs++tkW ba true (r::rs)))::dBs ((r::rs).drop (tkW ba true (r::rs)).length)=_;rw[ht,l17];show fe _::dBs (r::rs)=_;rw[kG h];rfl
def contF_end {ws:List (List Nat)}:ff none ws []=m6 ws:=by
 cases ws with
 |nil=>rfl
 |cons x xs=>
  show fe (ao [32] (x::xs++[]))::dBs []=_;rw[l17];rfl
def contF_endL {ls ws:List (List Nat)}:ff (some ls) ws []=[dLit ls]:=by
 show dLit (ls++[])::dBs []=_;rw[l17];rfl
def bY (ts:List (List Nat)):List Nat:=124::(ts.map λt=>32::t++[124]).flatten
def oe (t:List Nat):Prop:=bR t=t/\∀c∈t,c≠124/\c≠92
def sN:∀{t:List Nat},(∀c∈t,c≠92)->unesc t=t
 |t,h=>by
  have := dO t [] (λk z=>by
   obtain⟨u,hu⟩:=z;exact h 92 (l58 (by rw[<- hu];exact l8)) rfl) (λt z=>nomatch z)
  rw[l17] at this;rw[this,show unesc []=[] from rfl,l17]
def xu:∀{t:List Nat},(∀c∈t,c≠124)->aQ t=[t]:=by
 have:∀(t:List Nat) (p:Nat),(∀c∈t,c≠124)->aq p t=[t]:=by
  intro t
  induction t with
  |nil=>intro p _;rfl
  |cons x r ih=>
   intro p h;have hx:=h x l8;have:=ih x λc hc=>h c (l7 _ hc);unfold aq;rw[if_neg (λz=>hx z.1),this];rfl
 exact λ{t} h=>this t 0 h
def m7 {t:List Nat}(h:oe t):(aQ (32::t)).map (λc=>bR (unesc c))=[t]:=by
 rw [xu (λc hc=>by
  rcases l9.mp hc with z |z
  ·rw[z];decide
  ·exact (h.2 c z).1), l12, l53, sN (λc hc=>by
  rcases l9.mp hc with z |z
  ·rw[z];decide
  ·exact(h.2 c z).2)]
 have:bR (32::t)=bR t:=by unfold bR;rw[kT]
 rw[this,h.1]
def kH {t:List Nat}(h:oe t):(32::t).getLastD 0≠92:=λz=>by
 have:(32::t).getLastD 0∈32::t:=by
  rw[List.getLastD_eq_getLast?,List.getLast?_eq_some_getLast (by simp)];exact List.getLast_mem _
 rw[z] at this;rcases l9.mp this with y |y
 ·cases y
 ·exact(h.2 92 y).2 rfl
def cv:List (List Nat)->List Nat
 | []=>[]
 | [t]=>32::t
 |t::ts=>32::t++124::cv ts
theorem iw:∀{ts:List (List Nat)},ts≠[]->(ts.map λt=>32::t++[124]).flatten=cv ts++[124]
 | [],h=>absurd rfl h
 | [t],_=>by simp[cv]
 |t::u::ts,_=>by
  rw[l12,l35,iw (ts:=u::ts) (by simp)];show 32::t++[124]++(cv (u::ts)++[124])=32::t++124::cv (u::ts)++[124];simp
theorem gQ:∀{ts:List (List Nat)},ts≠[]->(∀t∈ts,oe t)->(cv ts).getLastD 0≠92
 | [],h,_=>absurd rfl h
 | [t],_,k=>kH (k t l8)
 |t::u::ts,_,k=>by
  have:=gQ (ts:=u::ts) (by simp) λt ht=>k t (l7 _ ht);show (32::t++124::cv (u::ts)).getLastD 0≠92;rw[fL (by simp)];have hne:cv (u::ts)≠[]:=by cases ts <;> simp[cv]
  rw[show (124::cv (u::ts))=[124]++cv (u::ts) from rfl,fL hne];exact this
theorem fF:∀{ts:List (List Nat)},ts≠[]->(∀t∈ts,oe t)->cP (cv ts)=ts
 | [],h,_=>absurd rfl h
 | [t],_,k=>m7 (k t l8)
 |t::u::ts,_,k=>by
  have ih:=fF (ts:=u::ts) (by simp) λt ht=>k t (l7 _ ht);have ht:=k t l8;show cP (32::t++124::cv (u::ts))=_;unfold cP at ih ⊢;rw[uP _ _ (kH ht),l15,m7 ht,ih];rfl
def sO {ts:List (List Nat)}(h:ts≠[])(k:∀t∈ts,oe t):aL (bY ts) = .cells ts:=by
 have:=nH (gQ h k) 0;rw[fF h k] at this;rw[<- this];unfold bY;rw[iw h];simp
end Lw
namespace K15
open PySem L2 Lm Lw
def GdR (r:List Nat):Prop:=∀c∈r,c < 128/\c≠10/\c≠9
section
abbrev lT:Stmt:=top 99
inductive spCellAt (K:Frag)(vs:List V)(H:Hp)(Q:VK)(u3:XK):Prop
 |mk (a:Addr)(ns:List Int)(k:Nat)(_:vs=[.ref a, .int k])(_:SqL K H a (ns.map V.int))(_:∀i:Int,Q (.int i) H)
def qI (F:Fun K "_law_cell_at" "_law_cell_at" lT f fd)(T:Tx mg):FnOk P w K mg base CX0 1 f fd p13 (spCellAt K):=by
 have sc:FnScope p13 p13 (ad lT):=mkS;refine F.oks sc λH Q hr h=>?_;obtain⟨a,ns,k,rfl,hq,q⟩:=h;refine ap (xbc (xif (ay dL (xv 1) (xcB aj T.u10 PySem.boot_len (xac (xv 0) xa0)) (al _)) (xb1 (xret (xix ax (xv 0) (xv 1) (λ_ _=>rfl)))) xb0)
  (xb1 (xret xint))) ?_
 refine⟨_,rfl,_,rfl,a,_,rfl, .inl hq,_,_,rfl,rfl,_,rfl,?_⟩;refine ite2 (λc=>?_) (λc=>?_)
 ·have c:=of_decide_eq_true c;rw[l0] at c;have hk:k < ns.length:=by omega
  exact⟨_,rfl,_,rfl,a,_,_, .int ns[k],rfl,rfl,hq,am (by rw[List.getElem?_map,List.getElem?_eq_getElem hk];rfl),q _⟩
 ·exact q 0
abbrev qJ:Stmt:=top 100
def sP (F:Fun K "_law_mixed" "_law_mixed" qJ f fd):FnOk P w K mg base CX0 1 f fd p15 spMixed:=by
 have sc:FnScope ["_law_cell","_law_k","_law_number"] p15 (ad qJ):=mkS;refine F.oks sc λH Q hr h=>?_;obtain⟨c,k,rfl,h0,h1,q⟩:=h;refine ap (xbc (xst (i:=2) sc.nd (xop bq (xop fU (xop au (xop bq (xv 0) xint) xint) xint) xint))
  (xb1 (xret (xop cx (xop bq (xop fU (xv 2) (xop au (xop au xint (xop fU (xop fU xint (xv 1)) (xv 1))) (xop fU xint (xv 1)))) xint) xint)))) ?_
 have hk2:0<=k * k/\k * k<=10000:=by
  constructor
  ·exact Int.mul_nonneg h0 h0
  ·calc k * k<=100 * 100:=Int.mul_le_mul h1 h1 h0 nofun
    _=10000:=rfl
 refine⟨_,rfl,_,_,rfl,rfl,show (0:Int) < 1000000007 by omega,_,_,rfl,rfl,_,_,rfl,rfl, .inr nofun,_,_,rfl,rfl,show (0:Int) < 2147483647 by omega,?_⟩;refine⟨_,rfl,_,rfl,_,_,rfl,rfl, .inl nofun,_,rfl,_,_,rfl,rfl, .inr nofun,_,_,rfl,rfl,_,rfl,_,_,rfl,rfl, .inl nofun,_,_,rfl,rfl,_,_,rfl,rfl, .inl ?_,_,_,rfl,rfl,show (0:Int) < 2147483629 by omega,_,_,rfl,rfl,⟨by omega,by omega⟩,?_⟩
 ·have h1:=Int.emod_nonneg ((c % 1000000007+1) * 48271) (show (2147483647:Int)≠0 by omega);have h2:=Int.emod_lt_of_pos ((c % 1000000007+1) * 48271) (show (0:Int) < 2147483647 by omega);constructor
  ·show _ < (c % 1000000007+1) * 48271 % 2147483647;omega
  ·show (c % 1000000007+1) * 48271 % 2147483647 < _;omega
 ·refine q _ ?_;exact Int.ediv_nonneg (Int.emod_nonneg _ nofun) nofun
end
end K15
namespace Lw
open PySem L2 Lm
def dPl (w:List Nat):PyData := .list [.tuple [.str "plain", .str (S w)]]
def one (a:Addr)(o:HO):Hp:=λb=>if b=a then some o else none
def sQ {H:Hp}{a:Addr}{o:HO}(e:H a=some o):Same (one a o) H:=λy u h=>by
 unfold one at h;by_cases z:y=a
 ·rw[if_pos z] at h;cases h;rw[z];exact e
 ·rw[if_neg z] at h;cases h
section
variable {W W':Addr->Prop}{H H':Hp}
def m8 {a:Addr}{o:HO}{xs:List V}{ds:List PyData}(h:Offs W H xs ds)(e:H a=some o)(hw:¬ W a):∃G,Same G H/\(∀b,W b->G b=none)/\DnAll G xs ds/\G a=some o:=by
 obtain⟨G,s,b,k⟩:=h;have s1:=sQ e;refine⟨both G (one a o),k9 s s1,λy hy=>?_,k.same pf,ph s s1 _ _ (if_pos rfl)⟩;unfold both;rw[b y hy];exact if_neg λz:y=a=>hw (z▸hy)
def ft {t:Addr}{xs:List V}{ds:List PyData}(h:Offs W H xs ds)(e:H t=some (.tup xs))(hw:¬ W t):Off W H (.ref t) (.tuple ds):=by
 obtain⟨G,s,b,k,l⟩:=m8 h e hw;exact⟨G,s,b, .tup l k⟩
def gR {t:Addr}{xs:List V}{ds:List PyData}(h:Offs W H xs ds)(e:H t=some (.lst xs))(hw:¬ W t)(hl:xs.length<=100000):Off W H (.ref t) (.list ds):=by
 obtain⟨G,s,b,k,l⟩:=m8 h e hw;exact⟨G,s,b, .lst l k hl⟩
def cZ {v:V}{d:PyData}(h:∀G,Dn G v d):Off W H v d:=⟨λ_=>none,(λ_ _ z=>nomatch z),(λ_ _=>rfl),h _⟩
def sR {a b:Addr}{v:V}{d:PyData}(h:Off W H v d)(ha:W a)(hb:H b=none)(hs:∀y o,y≠a->H y=some o->H' y=some o):Off (λy=>W y ∨ y=b) H' v d:=by
 obtain⟨G,s,n,k⟩:=h;refine⟨G,λy o e=>hs y o (nq (n a ha) e) (s _ _ e),λy hy=>?_,k⟩;rcases hy with z |z
 ·exact n y z
 ·rw[z];exact s.free hb
def kI {a b:Addr}{v:List V}{d:List PyData}(h:Offs W H v d)(ha:W a)(hb:H b=none)(hs:∀y o,y≠a->H y=some o->H' y=some o):Offs (λy=>W y ∨ y=b) H' v d:=by
 obtain⟨G,s,n,k⟩:=h;refine⟨G,λy o e=>hs y o (nq (n a ha) e) (s _ _ e),λy hy=>?_,k⟩;rcases hy with z |z
 ·exact n y z
 ·rw[z];exact s.free hb
end
structure HdOk (h:Itm):Prop where
 sg:h.2.1=43 ∨ h.2.1=45
 nm:NoMk h.2.2
 ne:h.2.2≠[]
 asc:Asc h.2.2
 len:h.2.2.length<=1000
def HdOk.sgn {h:Itm}(k:HdOk h):kl (decide (h.2.1=43))=[h.2.1]:=by
 rcases k.sg with z |z <;> rw[z] <;> rfl
def yw {h:Itm}(k:HdOk h)(ds:List PyData):hD h ds = .tuple [.str (S [h.2.1]),dPl h.2.2, .list ds]:=by
 unfold hD;rw[k.sgn,cO k.nm k.ne];rfl
inductive Stk (W:Addr->Prop) (H:Hp) (m:Nat):List Addr->List (List PyData×Itm)->List PyData->Prop
 |last {a:Addr} {vs:List V} {E:List PyData}:H a=some (.lst vs)->Offs W H vs E->vs.length<=m->Stk W H m [a] [] E
 |more {a b t:Addr} {us:List V} {p:V} {E' E:List PyData} {h:Itm} {as:List Addr} {sp:List (List PyData×Itm)}:H a=some (.lst (us++[.ref t]))->Offs W H us E'->us.length+1<=m->¬ W t->H t=some (.tup [vS [h.2.1],p, .ref b])->Off W H p (dPl h.2.2)->HdOk h->Stk W H m (b::as) sp E->Stk W H m (a::b::as) ((E',h)::sp) E
section
variable {W W':Addr->Prop}{H H':Hp}{m:Nat}
def yx {G : Hp} {h : Itm} (k : HdOk h) : Dn G (vS [h.2.1]) (.str (S [h.2.1])) := (gy (λc hc=>by
 rw[l14.mp hc];rcases k.sg with z |z <;> omega) (by show 1<=_;decide)).dn
def Stk.clo (hm:m<=100000)(hW:∀b,W' b->W b){as:List Addr}{sp:List (List PyData×Itm)}{E:List PyData}(h:Stk W H m as sp E):(∀b∈as.drop 1,¬ W' b)->∃a r vs,as=a::r/\H a=some (.lst vs)/\Offs W' H vs (Lw.clo sp E)/\vs.length<=m:=by
 induction h with
 |last e o l=>exact λ_=>⟨_,_,_,rfl,e,o.mono hW,l⟩
 | @more a b t us p E' E h as sp e o l nt et hp hk hr ih=>
  intro hn;obtain⟨b',r,vs,eq,e2,o2,l2⟩:=ih λy hy=>hn y (l7 _ (by simpa using hy));cases eq;have ob:=gR o2 e2 (hn _ l8) (l11 l2 hm);have ot:=ft (((Offs.nil.snoc (cZ λG=>yx hk)).snoc (hp.mono hW)).snoc ob) et λz=>nt (hW _ z);refine⟨_,_,_,rfl,e,?_,by rw[l6];exact l⟩;show Offs W' H _ (E'++[hD h (Lw.clo sp E)]);rw[yw hk];exact(o.mono hW).snoc ot
def Stk.cut (hm:m<=100000)(hW:∀b,W' b->W b){as:List Addr}{sp:List (List PyData×Itm)}{E:List PyData}(h:Stk W H m as sp E):∀j,j<=sp.length->(∀b∈as.drop (j+1),¬ W' b)->Stk W' H m (as.take (j+1)) (sp.take j) (Lw.clo (sp.drop j) E):=by
 induction h with
 |last e o l=>
  intro j hj hn;have:j=0:=Nat.le_zero.mp hj;subst this;exact .last e (o.mono hW) l
 | @more a b t us p E' E h as sp e o l nt et hp hk hr ih=>
  intro j hj hn;cases j with
  |zero=>
   obtain⟨a',r,vs,eq,e2,o2,l2⟩:=Stk.clo hm hW (Stk.more e o l nt et hp hk hr) hn;cases eq;exact .last e2 o2 l2
  |succ j=>
   exact .more e (o.mono hW) l (λz=>nt (hW _ z)) et (hp.mono hW) hk (ih j (by rw[l4] at hj;omega) hn)
def Stk.live {as:List Addr}{sp:List (List PyData×Itm)}{E:List PyData}(h:Stk W H m as sp E):∀y∈as,∃xs,H y=some (.lst xs):=by
 induction h with
 |last e o l=>intro y hy;rw[l14.mp hy];exact⟨_,e⟩
 |more e o l nt et hp hk hr ih=>
  intro y hy;rcases l9.mp hy with z |z
  ·rw[z];exact⟨_,e⟩
  ·exact ih y z
def Stk.len {as:List Addr}{sp:List (List PyData×Itm)}{E:List PyData}(h:Stk W H m as sp E):as.length=sp.length+1:=by
 induction h with
 |last e o l=>rfl
 |more e o l nt et hp hk hr ih=>exact congrArg (· + 1) ih
def Stk.top {as:List Addr}{sp:List (List PyData×Itm)}{E:List PyData}(h:Stk W H m as sp E):∃ini a vs,as=ini++[a]/\H a=some (.lst vs)/\vs.length<=m:=by
 induction h with
 |last e o l=>exact⟨[],_,_,rfl,e,l⟩
 | @more a b t us p E' E h as sp e o l nt et hp hk hr ih=>
  obtain⟨ini,a',vs,eq,e2,l2⟩:=ih;exact⟨a::ini,a',vs,by rw[eq];rfl,e2,l2⟩
def Stk.push {a b t:Addr}{p:V}{x:Itm}{vs:List V}(hWa:W a)(ea:H a=some (.lst vs))(ea':H' a=some (.lst (vs++[.ref t])))(hs:∀y o,y≠a->H y=some o->H' y=some o)(hb:H b=none)(eb:H' b=some (.lst []))(ht:H t=none)(hWt:¬ W t)(htb:t≠b)(et:H' t=some (.tup [vS [x.2.1],p, .ref b]))(hp:Off (λy=>W y ∨ y=b) H' p (dPl x.2.2))(hx:HdOk x){as:List Addr}{sp:List (List PyData×Itm)}{E:List PyData}(h:Stk W H m as sp E):∀ini,as=ini++[a]->a∉ini->Stk (λy=>W y ∨ y=b) H' (m+1) (as++[b]) (sp++[(E,x)]) []:=by
 induction h with
 | @last a0 vs0 E e o l=>
  intro ini hi _;have ha:a0=a:=by
   cases ini with
   |nil=>cases hi;rfl
   |cons y r=>have:=congrArg List.length hi;simp at this
  subst ha;rw[ea] at e;cases e;exact .more ea' (kI o hWa hb hs) nofun (λz=>z.elim hWt htb) et hp hx (.last eb .nil (l10 _))
 | @more a0 b0 t0 us p0 E' E h as sp e o l nt et0 hp0 hk hr ih=>
  intro ini hi hn;cases ini with
  |nil=>cases hi
  |cons y ini=>
   rw[l40] at hi;injection hi with h1 h2
   have hne:a0≠a:=λz=>hn (by rw[<- h1,z];exact l8);have htn:t0≠a:=(nq ea et0);exact .more (hs _ _ hne e) (kI o hWa hb hs) nofun (λz=>z.elim nt (nq hb et0)) (hs _ _ htn et0) (sR hp0 hWa hb hs) hk (ih ini h2 λz=>hn (l7 _ z))
end
def Stk.mono {W W':Addr->Prop}{H:Hp}{m:Nat}(hW:∀b,W' b->W b){as:List Addr}{sp:List (List PyData×Itm)}{E:List PyData}(h:Stk W H m as sp E):Stk W' H m as sp E:=by
 induction h with
 |last e o l=>exact .last e (o.mono hW) l
 |more e o l nt et hp hk hr ih=>exact .more e (o.mono hW) l (λz=>nt (hW _ z)) et (hp.mono hW) hk ih
def HdOk.lv {x:Itm}(h:HdOk x)(n:Nat):HdOk (n,x.2.1,x.2.2):=⟨h.sg,h.nm,h.ne,h.asc,h.len⟩
def Stk.more12 {W:Addr->Prop}{H:Hp}{m n:Nat}(hm:m<=n){as:List Addr}{sp:List (List PyData×Itm)}{E:List PyData}(h:Stk W H m as sp E):Stk W H n as sp E:=by
 induction h with
 |last e o l=>exact .last e o (l11 l hm)
 |more e o l nt et hp hk hr ih=>exact .more e o (l11 l hm) nt et hp hk ih
theorem t7 {E:List PyData}{x:Itm}:∀{j:Nat} {sp:List (List PyData×Itm)},j<=sp.length->putS j sp E x=sp.take j++[(clo (sp.drop j) E,x)]
 |0,sp,_=>by cases sp <;> rfl
 |j+1,[],h=>absurd h (by rw[l25];omega)
 |j+1,p::sp,h=>by
  show p::putS j sp E x=p::(sp.take j++_);rw[t7 (by rw[l4] at h;omega)];rfl
end Lw
namespace K15
open PySem L2 Lm Lw
def RwS (m:Nat)(rs:List (List Nat)):Prop:=(rs.map λr=>r.length+1).sum<=m/\∀r∈rs,GdR r
def RwS.sm {m:Nat}{rs:List (List Nat)}(h:RwS m rs)(k:m<=900):SmR rs:=⟨l11 h.1 k,λr hr c hc=>(h.2 r hr c hc).1⟩
def RwS.app {m n:Nat}{a b:List (List Nat)}(h:RwS m a)(k:RwS n b):RwS (m+n) (a++b):=⟨by rw[l15,l85];exact Nat.add_le_add h.1 k.1,λr hr=>(l21.mp hr).elim (h.2 r) (k.2 r)⟩
def RwS.one {m:Nat}{r:List Nat}(h:GdR r)(k:r.length+1<=m):RwS m [r]:=⟨k,λx hx=>by rw[l14.mp hx];exact h⟩
def RwS.le {m n:Nat}{a:List (List Nat)}(h:RwS m a)(k:m<=n):RwS n a:=⟨l11 h.1 k,h.2⟩
inductive GotB (m:Nat) (H H':Hp) (t:Addr):Prop
 |mk:∀(r:Addr) (v:V) (rs:List (List Nat)) (b:Bl 4),Same H H'->H' t=some (.tup [.ref r,v])->H' r=some (.lst (rs.map vS))->Dn H' v (dB 4 b)->RdX rs b->RwS m rs->GotB m H H' t
structure TxL (mg:Str->Option Value):Prop extends Tx mg where
 u11:mg "min"=none
 z11:mg "max"=none
def wd (k:Nat):List Nat:=119::(if k < 10 then [48+k] else [49,38+k])
def md (k:Nat):List Nat:=[109,48+k]
def fars:List Nat:=[0,1,2,3,4,5,6,8,10,12,14,16]
def sgs:List Nat:=[45,43]
def rowI (f s k:Nat):List Nat:=List.replicate f 32++[s]++[32,32]++wd k
def rowM (d k:Nat):List Nat:=List.replicate d 32++md k++[32]
def yy:∀k:Fin 12,(Str.ofString "w"++Str.ofString (toString ((k.val:Nat):Int)))=S (wd k.val):=by decide
def yz:∀k:Fin 2,(Str.ofString "m"++Str.ofString (toString ((k.val:Nat):Int)))=S (md k.val):=by decide
def qK:∀k:Fin 12,(Str.ofString (toString ((k.val:Nat):Int))).length<=2:=by decide
def qL (s:Srt)(f c:Nat)(w:List Nat):Bool:=match s with
 | .item f' c' w'=>decide (f'=f)&&decide (c'=c)&&decide (w'=w)
 |_=>false
def qM {s:Srt}{f c:Nat}{w:List Nat}(h:qL s f c w=true):s = .item f c w:=by
 cases s <;> first |cases h |skip
 unfold qL at h;simp only[Bool.and_eq_true,decide_eq_true_iff] at h;obtain⟨⟨rfl,rfl⟩,rfl⟩:=h;rfl
def lU (s:Srt)(f:Nat)(w:List Nat):Bool:=match s with
 | .plain f' w'=>decide (f'=f)&&decide (w'=w)
 |_=>false
def og {s:Srt}{f:Nat}{w:List Nat}(h:lU s f w=true):s = .plain f w:=by
 cases s <;> first |cases h |skip
 unfold lU at h;simp only[Bool.and_eq_true,decide_eq_true_iff] at h;obtain⟨rfl,rfl⟩:=h;rfl
def sS:((List.range 12).all λk=>fars.all λf=>sgs.all λs=>qL (aL (rowI f s k)) f s (wd k)&&(rowI f s k).all (λc=>decide (c < 128/\c≠10/\c≠9))&&decide ((rowI f s k).length<=22))=true:=by decide
def vE {f s k:Nat}(hf:f∈fars)(hs:s∈sgs)(hk:k < 12):srtQ true (rowI f s k) = .item f s (wd k)/\GdR (rowI f s k)/\(rowI f s k).length<=22:=by
 have h:=l22.mp (l22.mp (l22.mp sS k (l33.mpr hk)) f hf) s hs;simp only[Bool.and_eq_true,decide_eq_true_iff] at h;exact⟨(aW _).trans (qM h.1.1),λc hc=>of_decide_eq_true (l22.mp h.1.2 c hc),h.2⟩
def sT:((List.range 2).all λk=>(List.range 5).all λd=>lU (aL (rowM (1+d) k)) (1+d) (md k)&&(rowM (1+d) k).all (λc=>decide (c < 128/\c≠10/\c≠9))&&decide ((rowM (1+d) k).length<=8))=true:=by decide
def vF {d k:Nat}(hd:d < 5)(hk:k < 2):cM (srtQ true (rowM (1+d) k))=some (md k)/\GdR (rowM (1+d) k)/\(rowM (1+d) k).length<=8:=by
 have h:=l22.mp (l22.mp sT k (l33.mpr hk)) d (l33.mpr hd);simp only[Bool.and_eq_true,decide_eq_true_iff] at h;refine⟨?_,λc hc=>of_decide_eq_true (l22.mp h.1.2 c hc),h.2⟩;rw[aW,og h.1.1];show (if 1<=1+d then some (md k) else none)=_;rw[if_pos nofun]
def wsI (k j:Nat):List (List Nat):=wd k::(List.range j).map md
def vG:((List.range 12).all λk=>(List.range 3).all λj=>(ao [32] (wsI k j)).all (λc=>decide (c < 128/\c≠92/\c≠42/\c≠96/\c≠91)) && !(ao [32] (wsI k j)).isEmpty&&decide ((ao [32] (wsI k j)).length<=1000)&&decide (((((wsI k j).map S).map (·.length)).sum+((wsI k j).map S).length * (S [32]).length)<=16777216))=true:=by decide
def xw {k j:Nat}(hk:k < 12)(hj:j < 3){f s:Nat}(hs:s∈sgs):HdOk (f,s,ao [32] (wsI k j))/\(((wsI k j).map S).map (·.length)).sum+((wsI k j).map S).length * (S [32]).length<=16777216:=by
 have h:=l22.mp (l22.mp vG k (l33.mpr hk)) j (l33.mpr hj);simp only[Bool.and_eq_true,decide_eq_true_iff] at h;obtain⟨⟨⟨h1,h2⟩,h3⟩,h4⟩:=h;have h1:∀c∈ao [32] (wsI k j),c < 128/\c≠92/\c≠42/\c≠96/\c≠91:=λc hc=>of_decide_eq_true (l22.mp h1 c hc);refine⟨⟨?_,λc hc=>(h1 c hc).2,?_,λc hc=>(h1 c hc).1,h3⟩,h4⟩
 ·rcases l9.mp hs with z |z
  ·exact .inr z
  ·exact .inl (l14.mp z)
 ·intro z;rw[show ao [32] (wsI k j)=[] from z] at h2;cases h2
section
abbrev m9:Stmt:=top 101
abbrev qN:List Str:=["_law_script","_law_rows","_law_items_here","_law_k","_law_number","_law_far","_law_sign","_law_words","_law_turn","_law_levels","_law_level","_law_found","_law_stack","_law_inner"]
inductive spItems (K:Frag)(vs:List V)(H:Hp)(Q:VK)(u3:XK):Prop
 |mk (a:Addr)(ns:List Int)(_:vs=[.ref a])(_:SqL K H a (ns.map V.int))(_:∀t H',GotB 500 H H' t->Q (.ref t) H')
def sV (F:Fun K "_law_items" "_law_items" m9 f fd)(T:TxL mg)(De:Def P w K mg base 1 "_law_cell_at" p13 (spCellAt K))(Di:Def P w K mg base 1 "_law_mixed" p15 spMixed):FnOk P w K mg base CX0 2 f fd ["_law_script"] (spItems K):=by
 have sc:FnScope qN ["_law_script"] (ad m9):=mkS;refine F.oks sc λ{cdv A _ s vs E}H Q hr h=>?_;obtain⟨a,ns,rfl,hq,q⟩:=h;have hu:(A.deeper (PyProof.Rows.envOfC "_law_items" (ad m9) s.heap.objs.size f cdv)).units+64 < cLine:=by
  have:=hr.un;omega
 refine ap (xbc (xst (i:=1) sc.nd (xlst xa0))
  (xbc (xst (i:=2) sc.nd (xlst xa0))
  (xbc (xfor PassesOwn.never rfl (xir1 rfl T.q10 (xac (xop au xint (xop bq (xcd De hr (xac (xv 0) (xac xint xa0))) xint)) xa0)) (xgm (i:=3) sc.nd)
  (xbc (xst (i:=4) sc.nd (xcd Di hr (xac (xcd De hr (xac (xv 0) (xac xint xa0))) (xac (xv 3) xa0))))
  (xbc (xst (i:=5) sc.nd (xix ax (xlst (xac xint (xac xint (xac xint (xac xint (xac xint (xac xint (xac xint (xac xint (xac xint (xac xint (xac xint (xac xint xa0))))))))))))) (xop bq (xv 4) xint) (λ_ _=>rfl)))
  (xbc (xst (i:=6) sc.nd (xix dq xstr (xop bq (xop cx (xv 4) xint) xint) (λ_ _=>rfl)))
  (xbc (xst (i:=7) sc.nd (xlst (xac (xop aJ xstr (xcTy fu T.g11 rfl (xac (xv 3) xa0))) xa0)))
  (xbc (aZ (xmA (xv 1) (xac (xop aJ (xop aJ (xop aJ (xop hV xstr (xv 5)) (xv 6)) xstr) (xix ax (xv 7) xint (λ_ _=>rfl))) xa0)))
  (xbc (xfor PassesOwn.never rfl (xir1 rfl T.q10 (xac (xop fU (xop bq (xop cx (xv 4) xint) xint) (xop bq (xop cx (xv 4) xint) xint)) xa0)) (xgm (i:=8) sc.nd)
  (xbc (aZ (xmA (xv 7) (xac (xop aJ xstr (xcTy fu T.g11 rfl (xac (xv 8) xa0))) xa0)))
  (xb1 (aZ (xmA (xv 1) (xac (xop aJ (xop aJ (xop hV xstr (xop au xint (xop bq (xop cx (xv 4) xint) xint))) (xix ax (xv 7) (xun fV xint) (λ_ _=>rfl))) xstr) xa0))))))
  (xb1 (aZ (xmA (xv 2) (xac (xtup (xac (xv 5) (xac (xv 6) (xac (xm plainAttrs_str slot_str_join type_str_join bz xstr (xac (xv 7) xa0)) xa0)))) xa0)))))))))))
  (xbc (xst (i:=9) sc.nd (xlst xa0))
  (xbc (xfor PassesOwn.never rfl (xil (xv 2)) (xgt rfl (xgsc (xgm (i:=5) sc.nd) (xgsc (xgm (i:=6) sc.nd) (xgsc (xgm (i:=7) sc.nd) xgs0))))
  (xbc (xst (i:=10) sc.nd (xcB (jA rfl) T.z11 rfl (xac xint (xac (xop cx (xop bp (xv 5) (xix aB (xix ax (xv 2) xint (λ_ _=>rfl)) xint (λ_ _=>rfl))) xint) xa0))))
  (xb1 (aZ (xmA (xv 9) (xac (xcB (ky rfl) T.u11 rfl (xac xint (xac (xv 10) (xac (xifE (ay (ij hu) (xv 9) (xlst xa0) (al _)) (xop au (xix ax (xv 9) (xun fV xint) (λ_ _=>rfl)) xint) xint) xa0)))) xa0))))))
  (xbc (xst (i:=11) sc.nd (xlst xa0))
  (xbc (xst (i:=12) sc.nd (xlst (xac (xv 11) xa0)))
  (xbc (xfor PassesOwn.never rfl (xir1 rfl T.q10 (xac (xcB aj T.u10 PySem.boot_len (xac (xv 2) xa0)) xa0)) (xgm (i:=3) sc.nd)
  (xbc (xst (i:=12) sc.nd (xsl iE (xv 12) xo0 (xo1 (xop au (xix ax (xv 9) (xv 3) (λ_ _=>rfl)) xint))))
  (xbc (xst (i:=13) sc.nd (xlst xa0))
  (xbc (aZ (xmA (xix ax (xv 12) (xun fV xint) (λ_ _=>rfl)) (xac (xtup (xac (xix aB (xix ax (xv 2) (xv 3) (λ_ _=>rfl)) xint (λ_ _=>rfl)) (xac (xlst (xac (xtup (xac xstr (xac (xix aB (xix ax (xv 2) (xv 3) (λ_ _=>rfl)) xint (λ_ _=>rfl)) xa0))) xa0)) (xac (xv 13) xa0)))) xa0)))
  (xb1 (aZ (xmA (xv 12) (xac (xv 13) xa0))))))))
  (xb1 (xret (xtup (xac (xv 1) (xac (xtup (xac xstr (xac (xv 11) xa0))) xa0))))))))))))) ?_
 have hs:=sizeLine_eq;rw[show start qN [V.ref a]=[some (.ref a),none,none,none,none,none,none,none,none,none,none,none,none,none] from rfl];refine⟨bg0,λX hX=>?_⟩
 left
 have s1:=ac hX (.lst []);have e1:upd H X (.lst []) X=some (.lst []):=aa;generalize upd H X (.lst [])=H1 at s1 e1 ⊢;refine⟨bg0,λY hY=>?_⟩
 left
 have hYX:Y≠X:=(nq e1 hY);have hY0:H Y=none:=s1.free hY;have s2:=s1.trans (ac hY (.lst []));have e2:=ac hY (.lst []) _ _ e1;have eY:upd H1 Y (.lst []) Y=some (.lst []):=aa;generalize upd H1 Y (.lst [])=H2 at s2 e2 eY ⊢;clear e1 s1 hY;refine bm (λσ H'=>∃(x3 x4 x5 x6 x7 x8:Option V) (rs:List (List Nat)) (its:List Itm) (ts:List Addr),σ=[some (.ref a),some (.ref X),some (.ref Y),x3,x4,x5,x6,x7,x8,none,none,none,none,none]/\Same H H'/\H' X=some (.lst (rs.map vS))/\H' Y=some (.lst (ts.map V.ref))/\Ls (ItAt H') ts its/\its≠[]/\its.length<=12/\ItRows rs its/\RwS 500 rs/\∀x∈its,HdOk x) (λN hN=>?_) ?_
 ·refine⟨_,rfl,a,ns,0,rfl,s2.seq hq,λi0=>⟨_,_,rfl,rfl,show (0:Int) < 12 by omega,_,_,rfl,rfl,?_⟩⟩;obtain⟨m,hm⟩:∃m:Nat,1+i0 % 12=(m:Int):=⟨(1+i0 % 12).toNat,by omega⟩;refine⟨(m:Int),congrArg (λz=>[V.int z]) hm,by omega,by omega,?_⟩;rw[l36];refine bP (n:=m) (λi σ H'=>∃(x3 x4 x5 x6 x7 x8:Option V) (rs:List (List Nat)) (its:List Itm) (ts:List Addr),σ=[some (.ref a),some (.ref X),some (.ref Y),x3,x4,x5,x6,x7,x8,none,none,none,none,none]/\Same H H'/\H' X=some (.lst (rs.map vS))/\H' Y=some (.lst (ts.map V.ref))/\(NewQ H [X,Y] H' λG=>Ls (ItAt G) ts its)/\its.length=i/\ts.length=i/\ItRows rs its/\rs.length<=i * 3/\RwS (i * 41) rs/\∀x∈its,HdOk x) ⟨none,none,none,none,none,none,[],[],[],rfl,s2,e2,eY,NewQ.triv trivial,rfl,rfl,ItRows.nil,l5 _,⟨l5 _,λ_ z=>nomatch z⟩,λ_ z=>nomatch z⟩ ?_ ?_
  ·rintro i σ H3 hi ⟨x3,x4,x5,x6,x7,x8,rs,its,ts,rfl,s3,eX3,eY3,hn3,hil,htl,hir,hrl,hrw,hok⟩
   left
   have hi12:i < 12:=by omega
   rw[show (0:Int)+(i:Int)=(i:Int) by omega];refine⟨_,rfl,a,ns,1,rfl,s3.seq hq,λi1=>⟨_,rfl,i1,(i:Int),rfl,by omega,by omega,λm1 hm1=>?_⟩⟩
   left
   obtain⟨M,rfl⟩:∃M:Nat,m1=(M:Int):=⟨m1.toNat,by omega⟩;have hj12:M % 12 < fars.length:=Nat.mod_lt _ ∅;obtain⟨fa,hfa⟩:∃fa,fars[M % 12]? = some fa:=⟨_,List.getElem?_eq_getElem hj12⟩;have hfm:=l16 hfa;have hf16:fa<=16:=by
    have:∀x∈fars,x<=16:=by decide
    exact this fa hfm
   refine⟨bg12,λL hL=>⟨_,rfl,_,_,rfl,rfl,show (0:Int) < 12 by omega,L,_,_,V.int (fa:Int),rfl,rfl,SqL.of aa,?_,?_⟩⟩
   ·rw[show ((M:Nat):Int) % 12=((M % 12:Nat):Int) by omega];exact am (xs:=fars.map λx:Nat=>V.int (x:Int)) (by rw[List.getElem?_map,hfa];rfl)
   left
   obtain⟨sg,hsg⟩:∃sg,sgs[M / 12 % 2]? = some sg:=⟨_,List.getElem?_eq_getElem (show M / 12 % 2 < sgs.length from Nat.mod_lt _ ∅)⟩;have hsm:=l16 hsg;refine⟨_,rfl,_,_,rfl,rfl,⟨by omega,by omega⟩,_,_,rfl,rfl,show (0:Int) < 2 by omega,_,_,sg,rfl,rfl,by rw[hs];decide,?_,?_⟩
   ·rw[show ((M:Nat):Int) / 12 % 2=((M / 12 % 2:Nat):Int) by omega];exact am (xs:=sgs) hsg
   left
   have s4:=ac hL (.lst [V.int 0, .int 1, .int 2, .int 3, .int 4, .int 5, .int 6, .int 8, .int 10, .int 12, .int 14, .int 16]);generalize upd H3 L (.lst [V.int 0, .int 1, .int 2, .int 3, .int 4, .int 5, .int 6, .int 8, .int 10, .int 12, .int 14, .int 16])=H4 at s4 ⊢;have hsgl:(⟨#[sg]⟩:Str)=S [sg]:=rfl;rw[hsgl];refine⟨_,rfl,_,rfl,?_,_,_,rfl,rfl,?_,?_⟩
   ·have:i=0 ∨ i=1 ∨ i=2 ∨ i=3 ∨ i=4 ∨ i=5 ∨ i=6 ∨ i=7 ∨ i=8 ∨ i=9 ∨ i=10 ∨ i=11:=by omega
    rcases this with rfl |rfl |rfl |rfl |rfl |rfl |rfl |rfl |rfl |rfl |rfl |rfl <;> decide
   ·have:=qK ⟨i,hi12⟩;have h1:(Str.ofString "w").length=1:=rfl;rw[h1,hs];have this:(Str.ofString (toString ((i:Nat):Int))).length<=2:=this;omega
   rw[show (Str.ofString "w"++Str.ofString (toString ((i:Nat):Int)))=S (wd i) from yy ⟨i,hi12⟩];refine⟨bg1,λWd hWd=>?_⟩
   left
   have hwl:(wd i).length<=3:=by unfold wd;split <;> simp
   have s5:=s4.trans (ac hWd (.lst [vS (wd i)]));have eW5:upd H4 Wd (.lst [vS (wd i)]) Wd=some (.lst [vS (wd i)]):=aa;have nW3:H3 Wd=none:=s4.free hWd;generalize upd H4 Wd (.lst [vS (wd i)])=H5 at s5 eW5 ⊢;have hWX:Wd≠X:=(nq eX3 nW3);have hWY:Wd≠Y:=(nq eY3 nW3);refine⟨_,rfl, .inl ⟨rfl,_,SqL.of (s5 _ _ eX3)⟩,_,rfl,_,_,rfl,rfl,rfl,by omega,by omega,?_⟩;rw[show Txt.mul (Str.ofString " ") ((fa:Nat):Int)=S (List.replicate fa 32) from wJ 32 fa];refine⟨_,rfl,_,_,rfl,rfl,by rw[aA,aA,l32,hs];show fa+1<=_;omega,?_⟩;rw[dN];refine⟨_,_,rfl,rfl,by rw[aA,l6,l32,hs];show fa+1+2<=_;omega,?_⟩;rw[show (S (List.replicate fa 32++[sg])++Str.ofString "  ")=S (List.replicate fa 32++[sg]++[32,32]) from dN _ _];refine⟨_,rfl,Wd,_,0,_,rfl,rfl,SqL.of eW5,am (j:=0) rfl,_,_,rfl,rfl,by rw[aA,aA,l6,l6,l32,hs];show fa+1+2+(wd i).length<=_;omega,?_⟩;rw[show (S (List.replicate fa 32++[sg]++[32,32])++S (wd i))=S (rowI fa sg i) from dN _ _];refine⟨X,_,_,rfl,rfl,s5 _ _ eX3,by rw[l0,hs];omega,?_⟩;obtain⟨ri1,ri2,ri3⟩:=vE hfm hsm hi12
   left
   have k6:∀b o,b≠X->H3 b=some o->upd H5 X (.lst (rs.map vS++[vS (rowI fa sg i)])) b=some o:=λb o n e=>by rw[ag n];exact s5 _ _ e
   have eX6:upd H5 X (.lst (rs.map vS++[vS (rowI fa sg i)])) X=some (.lst ((rs++[rowI fa sg i]).map vS)):=by rw[aa,l15];rfl
   have eW6:upd H5 X (.lst (rs.map vS++[vS (rowI fa sg i)])) Wd=some (.lst ((wsI i 0).map vS)):=by rw[ag hWX];exact eW5
   generalize upd H5 X (.lst (rs.map vS++[vS (rowI fa sg i)]))=H6 at k6 eX6 eW6 ⊢;clear s5 s4 eW5;refine bm (λσ H'=>∃(x8:Option V) (j:Nat) (ms:List (List Nat)),σ=[some (.ref a),some (.ref X),some (.ref Y),some (.int (i:Int)),some (.int (M:Int)),some (.int (fa:Int)),some (vS [sg]),some (.ref Wd),x8,none,none,none,none,none]/\(∀b o,b≠X->H3 b=some o->H' b=some o)/\H' X=some (.lst ((rs++rowI fa sg i::ms).map vS))/\H' Wd=some (.lst ((wsI i j).map vS))/\Tk cM true ms ((List.range j).map md)/\ms.length=j/\j < 3/\RwS (j * 9) ms) (λN hN=>?_) ?_
   ·obtain⟨cnt,hcnt⟩:∃cnt,cnt=M / 24 % 3 * (M / 72 % 2):=⟨_,rfl⟩;have hc2:cnt<=2:=by
     have h1:M / 24 % 3<=2:=by omega
     have h2:M / 72 % 2<=1:=by omega
     have:=Nat.mul_le_mul h1 h2;omega
    refine⟨_,rfl,_,_,rfl,rfl,⟨by omega,by omega⟩,_,_,rfl,rfl,show (0:Int) < 3 by omega,_,rfl,_,_,rfl,rfl,⟨by omega,by omega⟩,_,_,rfl,rfl,show (0:Int) < 2 by omega,_,_,rfl,rfl, .inl nofun,?_⟩;refine⟨(cnt:Int),congrArg (λz=>[V.int z]) (show (M:Int) / 24 % 3 * ((M:Int) / 72 % 2)=(cnt:Int) by rw[hcnt];simp),by omega,by omega,?_⟩;rw[l36];refine bP (n:=cnt) (λj σ H'=>∃(x8:Option V) (ms:List (List Nat)),σ=[some (.ref a),some (.ref X),some (.ref Y),some (.int (i:Int)),some (.int (M:Int)),some (.int (fa:Int)),some (vS [sg]),some (.ref Wd),x8,none,none,none,none,none]/\(∀b o,b≠X->H3 b=some o->H' b=some o)/\H' X=some (.lst ((rs++rowI fa sg i::ms).map vS))/\H' Wd=some (.lst ((wsI i j).map vS))/\Tk cM true ms ((List.range j).map md)/\ms.length=j/\RwS (j * 9) ms) ⟨x8,[],rfl,k6,eX6,eW6,trivial,rfl,⟨l5 _,λ_ z=>nomatch z⟩⟩ ?_ ?_
    ·rintro j σ H7 hj ⟨x8',ms,rfl,k7,eX7,eW7,htk,hml,hms⟩
     left
     have hj2:j < 2:=by omega
     rw[show (0:Int)+(j:Int)=(j:Int) by omega];refine⟨_,rfl, .inl ⟨rfl,_,SqL.of eW7⟩,_,rfl,_,rfl,?_,_,_,rfl,rfl,?_,?_⟩
     ·have:j=0 ∨ j=1:=by omega
      rcases this with rfl |rfl <;> decide
     ·have:=qK ⟨j,by omega⟩;have h1:(Str.ofString "m").length=1:=rfl;rw[h1,hs];have this:(Str.ofString (toString ((j:Nat):Int))).length<=2:=this;omega
     rw[show (Str.ofString "m"++Str.ofString (toString ((j:Nat):Int)))=S (md j) from yz ⟨j,hj2⟩];refine⟨Wd,_,_,rfl,rfl,eW7,by rw[l0,hs];unfold wsI;simp;omega,?_⟩
     left
     have ew:(wsI i j).map vS++[vS (md j)]=(wsI i (j+1)).map vS:=by
      unfold wsI;rw[l63,l15,l12,l12,l15];rfl
     rw[show (wsI i j).map vS++[V.str (S (md j))]=(wsI i (j+1)).map vS from ew];have eW8:upd H7 Wd (.lst ((wsI i (j+1)).map vS)) Wd=some (.lst ((wsI i (j+1)).map vS)):=aa;have eX8:upd H7 Wd (.lst ((wsI i (j+1)).map vS)) X=some (.lst ((rs++rowI fa sg i::ms).map vS)):=by rw[ag (Ne.symm hWX)];exact eX7
     have k8:∀b o,b≠X->H3 b=some o->upd H7 Wd (.lst ((wsI i (j+1)).map vS)) b=some o:=λb o n e=>by rw[ag (nq nW3 e)];exact k7 _ _ n e
     generalize upd H7 Wd (.lst ((wsI i (j+1)).map vS))=H8 at eW8 eX8 k8 ⊢;obtain⟨d,hd⟩:∃d,d=M / 144 % 5:=⟨_,rfl⟩;have hd5:d < 5:=by omega
     refine⟨_,rfl, .inl ⟨rfl,_,SqL.of eX8⟩,_,rfl,_,_,rfl,rfl,⟨by omega,by omega⟩,_,_,rfl,rfl,show (0:Int) < 5 by omega,_,_,rfl,rfl,_,_,rfl,rfl,rfl,by omega,by omega,?_⟩;rw[show (1:Int)+(M:Int) / 144 % 5=((1+d:Nat):Int) by omega,show Txt.mul (Str.ofString " ") ((1+d:Nat):Int)=S (List.replicate (1+d) 32) from wJ 32 (1+d)];refine⟨_,rfl,1,rfl,Wd,_,_,vS (md j),rfl,rfl,SqL.of eW8,by rw[<- ew];exact iC _ _,_,_,rfl,rfl,by rw[aA,aA,l32,hs];show 1+d+2<=_;omega,?_⟩;rw[dN];refine⟨_,_,rfl,rfl,by rw[aA,l6,l32,hs];show 1+d+2+1<=_;omega,?_⟩;rw[show (S (List.replicate (1+d) 32++md j)++Str.ofString " ")=S (rowM (1+d) j) from dN _ _];obtain⟨rm1,rm2,rm3⟩:=vF hd5 hj2;refine⟨X,_,_,rfl,rfl,eX8,by rw[l0,l6,l4,hs];omega,?_⟩;refine⟨_,ms++[rowM (1+d) j],rfl,λb o n e=>by rw[ag n];exact k8 _ _ n e,?_,by rw[ag hWX];exact eW8,?_,by rw[l6,hml];rfl,(hms.app (RwS.one (m:=9) rm2 nofun)).le nofun⟩
     ·rw[aa,<- l40,<- l18,l15 (l₂:=[rowM (1+d) j])];rfl
     ·rw[l63,l15];exact htk.snoc rm1
    ·rintro σ H7 ⟨x8',ms,rfl,k7,eX7,eW7,htk,hml,hms⟩;exact hN _ _ ⟨x8',cnt,ms,rfl,k7,eX7,eW7,htk,hml,by omega,hms⟩
   rintro σ H7 ⟨x8',j,ms,rfl,k7,eX7,eW7,htk,hml,hj3,hms⟩;clear eX6 eW6 k6;obtain⟨hd1,hd2⟩:=xw (f:=fa) hi12 hj3 hsm;have eY7:=k7 _ _ hYX eY3;refine⟨_,rfl, .inl ⟨rfl,_,SqL.of eY7⟩,_,rfl,_,rfl,rfl,_,rfl,S [32],Wd,(wsI i j).map S,rfl,rfl,SqL.of (by rw[eW7,ck]),by rw[hs];exact hd2,?_⟩;rw[bD];refine⟨bg3,λt2 ht2=>?_⟩;have s37:Same H H7:=λb o e=>k7 b o (nq hX e) (s3 _ _ e);have hn7:NewQ H [X,Y] H7 λG=>Ls (ItAt G) ts its:=by
    obtain⟨G,g1,g2,g3,g4⟩:=hn3;exact⟨G,λb o e=>k7 b o (nq (g2 X l8) e) (g1 b o e),g2,g3,g4⟩
   have s8:=ac ht2 (.tup [.int (fa:Int),vS [sg],vS (ao [32] (wsI i j))]);refine⟨Y,_,_,rfl,rfl,s8 _ _ eY7,by rw[l0,hs];omega,?_⟩;refine⟨_,_,_,_,_,_,rs++rowI fa sg i::ms,its++[(fa,sg,ao [32] (wsI i j))],ts++[t2],rfl,af hY0 (s37.trans s8),?_,by rw[aa,l15];rfl,?_,by rw[l6,hil];rfl,by rw[l6,htl];rfl,hir.snoc ⟨_,ms,wd i,(List.range j).map md,rfl,ri1,htk,rfl⟩,by rw[l6,l4];omega,?_,λx hx=>?_⟩
   ·rw[ag (Ne.symm hYX)];exact s8 _ _ eX7
   ·refine NewQ.upd ?_ (l7 _ l8);refine NewQ.join (hn7.same s8) (NewQ.of (H3:=H7) (R:=λG=>ItAt G t2 (fa,sg,ao [32] (wsI i j))) s37 (λb' hb' z=>?_) ?_) (λG G' s h=>h.mono λa x=>gK _ _ _ _ s) (λG G' s h=>gK _ _ _ _ s h) λG h1 h2=>h1.snoc h2
    ·rcases l9.mp hb' with y |y
     ·rw[y,eX7] at z;cases z
     ·rw[l14.mp y,eY7] at z;cases z
    ·show dif _ _ _=_;rw[ar ht2];exact aa
   ·exact(hrw.app ((RwS.one (m:=23) ri2 nofun).app hms)).le nofun
   ·rcases l21.mp hx with z |z
    ·exact hok x z
    ·rw[l14.mp z];exact hd1
  ·rintro σ H3 ⟨x3,x4,x5,x6,x7,x8,rs,its,ts,rfl,s3,eX3,eY3,hn3,hil,htl,hir,hrl,hrw,hok⟩;obtain⟨G,g1,_,_,g2⟩:=hn3;exact hN _ _ ⟨x3,x4,x5,x6,x7,x8,rs,its,ts,rfl,s3,eX3,eY3,g2.mono λa x=>gK _ _ _ _ g1,λz=>by rw[z] at hil;have:0=m:=hil;omega,by omega,hir,hrw.le nofun,hok⟩
 rintro σ H3 ⟨x3,x4,x5,x6,x7,x8,rs,its,ts,rfl,s3,eX,eY3,hts,hne,hil,hir,hrw,hok⟩;clear e2 eY s2 hYX;refine⟨bg0,λZ hZ=>?_⟩
 left
 have s4:=ac hZ (.lst []);have eZ:upd H3 Z (.lst []) Z=some (.lst []):=aa;generalize upd H3 Z (.lst [])=H4 at s4 eZ ⊢;obtain⟨x0,ir,rfl⟩:∃x0 ir,its=x0::ir:=by cases its with |nil=>exact absurd rfl hne |cons a b=>exact⟨a,b,rfl⟩
 have htl:=hts.len;obtain⟨t0,tr,rfl⟩:∃t0 tr,ts=t0::tr:=by cases ts with |nil=>cases htl |cons a b=>exact⟨a,b,rfl⟩
 refine bm (λσ H'=>∃(x5 x6 x7 x10:Option V),σ=[some (.ref a),some (.ref X),some (.ref Y),x3,x4,x5,x6,x7,x8,some (.ref Z),x10,none,none,none]/\Same H3 H'/\H' Z=some (.lst ((lvs (x0::ir)).map λx=>V.int (x.1:Int)))) (λN hN=>?_) ?_
 ·refine⟨_,rfl,Y,rfl,⟨_,SqL.of (s4 _ _ eY3)⟩,?_⟩;refine cw (xs:=(t0::tr).map V.ref) (λi σ H'=>∃(pv:Nat) (x5 x6 x7 x10:Option V) (dn:List Itm),σ=[some (.ref a),some (.ref X),some (.ref Y),x3,x4,x5,x6,x7,x8,some (.ref Z),x10,none,none,none]/\Same H3 H'/\H' Z=some (.lst (dn.map λx=>V.int (x.1:Int)))/\dn++lvR x0.1 pv ((x0::ir).drop i)=lvs (x0::ir)/\(dn=[]/\pv=0 ∨ ∃dn' y,dn=dn'++[y]/\pv=y.1+1)/\dn.length=i) ⟨0,x5,x6,x7,none,[],rfl,s4,eZ,rfl, .inl ⟨rfl,rfl⟩,rfl⟩ ?_ ?_ ?_
  ·rintro i σ H5 _ ⟨_,_,_,_,_,_,_,s5,_⟩;exact SqL.of (s5 _ _ eY3)
  ·rintro i v σ H5 hv ⟨pv,x5,x6,x7,x10,dn,rfl,s5,eZ5,hrun,hpv,hdl⟩;obtain⟨t,x,rfl,hx,hdr,hit⟩:=hts.get hv;have hlt:=(List.getElem?_eq_some_iff.mp hx).1;rw[hdr] at hrun;refine⟨t,_,rfl,SqT.of (s5 _ _ hit),rfl,_,_,rfl,_,_,rfl,_,_,rfl,rfl,?_⟩
   left
   refine⟨_,rfl,_,rfl,Y,_,0,_,rfl,rfl,SqL.of (s5 _ _ eY3),am (j:=0) rfl,t0,_,0,_,rfl,rfl,SqT.of (s5 _ _ hts.1),am (j:=0) rfl,_,_,rfl,rfl,_,_,rfl,rfl,⟨by decide,by decide⟩,_,_,rfl,?_⟩
   left
   have nZ:H3 Z=none:=hZ;have elv:min (min 5 (if ((x.1:Int) - (x0.1:Int)) / 2 > 0 then ((x.1:Int) - (x0.1:Int)) / 2 else 0)) (pv:Int)=((lvl x0.1 pv x.1:Nat):Int):=by
    unfold lvl;split <;> omega
   generalize (if ((x.1:Int) - (x0.1:Int)) / 2 > 0 then ((x.1:Int) - (x0.1:Int)) / 2 else 0)=lev at elv ⊢;refine⟨_,rfl, .inl ⟨rfl,_,SqL.of eZ5⟩,_,rfl,_,rfl,bg0,λz0 hz0=>⟨Z,z0,_,rfl,rfl,SqL.of (ac hz0 _ _ _ eZ5),SqL.of aa,_,rfl,?_⟩⟩;have s6:=ac hz0 (.lst []);refine ite2 (λc=>?_) λc=>?_
   ·obtain⟨_,rfl⟩ |⟨dn',y,rfl,rfl⟩:=hpv
    ·rename_i z;rw[z] at c;exact absurd c ∅
    refine⟨_,rfl,1,rfl,Z,_,_,V.int (y.1:Int),rfl,rfl,SqL.of (s6 _ _ eZ5),by rw[l15];exact iC _ _,_,_,rfl,rfl,_,_,_,rfl,?_⟩;rw[show (y.1:Int)+1=((y.1+1:Nat):Int) by omega,elv];refine⟨Z,_,_,rfl,rfl,s6 _ _ eZ5,by rw[l0,hs];rw[l4] at hil;rw[l4] at hlt;omega,?_⟩;exact⟨_,_,_,_,_,dn'++[y]++[(lvl x0.1 (y.1+1) x.1,x.2.1,x.2.2)],rfl,af nZ (s5.trans s6),by rw[aa];simp,by rw[l18 (bs:=[_])];exact hrun, .inr ⟨_,_,rfl,rfl⟩,by rw[l6,hdl];rfl⟩
   ·obtain⟨rfl,rfl⟩ |⟨dn',y,rfl,rfl⟩:=hpv
    ·refine⟨_,_,_,rfl,?_⟩;rw[show (0:Int)=((0:Nat):Int) from rfl,elv];refine⟨Z,_,_,rfl,rfl,s6 _ _ eZ5,by rw[l0,hs];decide,?_⟩;exact⟨_,_,_,_,_,[(lvl x0.1 0 x.1,x.2.1,x.2.2)],rfl,af nZ (s5.trans s6),aa,hrun, .inr ⟨[],_,rfl,rfl⟩,by rw[<- hdl];rfl⟩
    ·exact absurd (show (!((dn'++[y]).map λx=>V.int (x.1:Int)).isEmpty)=true by simp) c
  ·rintro σ H5 ⟨pv,x5,x6,x7,x10,dn,rfl,s5,eZ5,hrun,hpv,hdl⟩;rw[l0,htl,l45] at hrun;have hrun:dn++[]=_:=hrun;rw[l17] at hrun;rw[hrun] at eZ5;exact hN _ _ ⟨x5,x6,x7,x10,rfl,s5,eZ5⟩
 rintro σ H5 ⟨x5,x6,x7,x10,rfl,s5,eZ5⟩;clear eZ s4;refine⟨bg0,λF hF=>?_⟩
 left
 have s6:=ac hF (.lst []);have eF:upd H5 F (.lst []) F=some (.lst []):=aa;generalize upd H5 F (.lst [])=H6 at s6 eF ⊢;refine⟨_,rfl,bg1,λSt hSt=>?_⟩
 left
 have s7:=s6.trans (ac hSt (.lst [V.ref F]));have eF7:=ac hSt (.lst [V.ref F]) _ _ eF;have eSt:upd H6 St (.lst [V.ref F]) St=some (.lst [V.ref F]):=aa;generalize upd H6 St (.lst [V.ref F])=H7 at s7 eF7 eSt ⊢;obtain⟨xs,hxs⟩:∃xs,xs=lvs (x0::ir):=⟨_,rfl⟩;rw[<- hxs] at eZ5;have eX5:=s5 _ _ eX;have eY5:=s5 _ _ eY3;refine bm (λσ H'=>∃(x3 x12 x13:Option V) (as:List Addr) (sp:List (List PyData×Itm)) (E:List PyData),σ=[some (.ref a),some (.ref X),some (.ref Y),x3,x4,x5,x6,x7,x8,some (.ref Z),x10,some (.ref F),x12,x13]/\Same H5 H'/\Stk (λy=>y∈as) H' 12 as sp E/\as.take 1=[F]/\sp.length<=6/\fin 6 sp E []=fin 6 [] [] xs) (λN hN=>?_) ?_
 ·refine⟨_,rfl,Y,_,rfl, .inl (SqL.of (s7 _ _ eY5)),?_⟩;refine⟨(((t0::tr).map V.ref).length:Int),rfl,by omega,by rw[l0,htl];omega,?_⟩;rw[l36,l0,htl];refine bP (n:=(x0::ir).length) (λk σ H'=>∃(x3 x13:Option V) (St:Addr) (as:List Addr) (sp:List (List PyData×Itm)) (E:List PyData),σ=[some (.ref a),some (.ref X),some (.ref Y),x3,x4,x5,x6,x7,x8,some (.ref Z),x10,some (.ref F),some (.ref St),x13]/\Same H5 H'/\H' St=some (.lst (as.map V.ref))/\Stk (λy=>y∈as) H' k as sp E/\as.Nodup/\(∀y∈as,H5 y=none)/\as.take 1=[F]/\sp.length<=6/\fin 6 sp E (xs.drop k)=fin 6 [] [] xs/\xs.drop k=lvR x0.1 sp.length ((x0::ir).drop k)) ⟨x3,none,St,[F],[],[],rfl,s7,eSt, .last eF7 .nil (l5 _),by simp,λy hy=>by rw[l14.mp hy];exact hF,rfl,l10 _,rfl,by rw[hxs];rfl⟩ ?_ ?_
  ·rintro k σ H8 hk ⟨x3',x13,St,as,sp,E',rfl,s8,eSt8,hst,hnd,v9,hF1,hsp,hfin,hrun⟩
   left
   rw[show (0:Int)+(k:Int)=(k:Int) by omega];obtain⟨it,hit⟩:∃it,(x0::ir)[k]? = some it:=⟨_,List.getElem?_eq_getElem hk⟩;obtain⟨t,ht⟩:∃t,(t0::tr)[k]? = some t:=⟨_,List.getElem?_eq_getElem (by rw[htl];exact hk)⟩;obtain⟨_,it2,hv2,hit2,hdr,htup⟩:=hts.get (i:=k) (v := .ref t) (by rw[List.getElem?_map,ht];rfl);cases hv2;rw[hit] at hit2;cases hit2;have htup:H3 t=some (.tup [.int it.1,vS [it.2.1],vS it.2.2]):=htup;rw[hdr] at hrun;obtain⟨j,hj⟩:∃j,j=lvl x0.1 sp.length it.1:=⟨_,rfl⟩;have hj5:j<=5/\j<=sp.length:=by rw[hj];unfold lvl;omega
   have hrun:xs.drop k=(j,it.2.1,it.2.2)::lvR x0.1 (j+1) ((x0::ir).drop (k+1)):=by rw[hrun,hj];rfl
   have hxk:xs[k]? = some (j,it.2.1,it.2.2):=by rw[<- List.head?_drop,hrun];rfl
   have hx1:xs.drop (k+1)=lvR x0.1 (j+1) ((x0::ir).drop (k+1)):=by rw[<- List.tail_drop,hrun];rfl
   refine⟨_,rfl,_,rfl,_,rfl,Z,_,_,V.int (j:Int),rfl,rfl,SqL.of (s8 _ _ eZ5),am (by rw[List.getElem?_map,hxk];rfl),_,_,rfl,rfl,_,rfl,St,_,rfl,SqL.of eSt8,λS2 hS2=>?_⟩
   left
   rw[show (j:Int)+1=((j+1:Nat):Int) by omega,qd,<- List.map_take];have hcut:=hst.cut (W':=λy=>y∈as.take (j+1)) nofun (λb hb=>l70 hb) j hj5.2 λb hb hb2=>by
    rw[<- l56 (j+1) as] at hnd;exact(List.nodup_append.mp hnd).2.2 b hb2 b hb rfl
   have hnd2:(as.take (j+1)).Nodup:=hnd.sublist (List.take_sublist _ _);have hnew2:∀y∈as.take (j+1),H5 y=none:=λy hy=>v9 y (l70 hy);have hF2:(as.take (j+1)).take 1=[F]:=by rw[List.take_take,l51 nofun];exact hF1
   obtain⟨ini,tp,vs,has,etp,hvl⟩:=hcut.top;generalize as.take (j+1)=as2 at hcut hnd2 hnew2 hF2 has ⊢;have htpm:tp∈as2:=by rw[has];exact l34 _ l8
   have hlive:=hcut.live;have s9:=ac hS2 (.lst (as2.map V.ref));have eS9:upd H8 S2 (.lst (as2.map V.ref)) S2=some (.lst (as2.map V.ref)):=aa;generalize upd H8 S2 (.lst (as2.map V.ref))=H9 at s9 eS9 ⊢;refine⟨bg0,λb hb=>?_⟩
   left
   have s10:=ac hb (.lst []);have eb10:upd H9 b (.lst []) b=some (.lst []):=aa;generalize upd H9 b (.lst [])=H10 at s10 eb10 ⊢;have s810:=s9.trans s10;have eYk:H10 Y=some (.lst ((t0::tr).map V.ref)):=s810 _ _ (s8 _ _ eY5);have etk:H10 t=some (.tup [.int it.1,vS [it.2.1],vS it.2.2]):=s810 _ _ (s8 _ _ (s5 _ _ htup));have hat:atI ((t0::tr).map V.ref) (k:Int)=some (.ref t):=am (by rw[List.getElem?_map,ht];rfl);have hast:as2.map V.ref=ini.map V.ref++[.ref tp]:=by rw[has,l15];rfl
   have hok2:=hok it (l16 hit);refine⟨_,rfl,1,rfl,S2,_,_,V.ref tp,rfl,rfl,SqL.of (s10 _ _ eS9),by rw[hast];exact iC _ _, .inl ⟨rfl,_,SqL.of (s810 _ _ etp)⟩,?_⟩;refine⟨_,rfl,_,rfl,Y,_,_,_,rfl,rfl,SqL.of eYk,hat,t,_,1,_,rfl,rfl,SqT.of etk,am (j:=1) rfl,?_⟩;refine⟨_,rfl,_,rfl,Y,_,_,_,rfl,rfl,SqL.of eYk,hat,t,_,2,_,rfl,rfl,SqT.of etk,am (j:=2) rfl,?_⟩;refine⟨bg2,λp1 hp1=>⟨bg1,λp2 hp2=>⟨_,rfl,bg3,λt2 ht2=>?_⟩⟩⟩;have s11:=ac hp1 (.tup [V.str "plain",vS it.2.2]);have e11:upd H10 p1 (.tup [V.str "plain",vS it.2.2]) p1=some (.tup [V.str "plain",vS it.2.2]):=aa;generalize upd H10 p1 (.tup [V.str "plain",vS it.2.2])=H11 at s11 e11 hp2 ht2 ⊢;have s12:=ac hp2 (.lst [V.ref p1]);have e12:upd H11 p2 (.lst [V.ref p1]) p2=some (.lst [V.ref p1]):=aa;generalize upd H11 p2 (.lst [V.ref p1])=H12 at s12 e12 ht2 ⊢;have s13:=ac ht2 (.tup [vS [it.2.1], .ref p2, .ref b]);have e13:upd H12 t2 (.tup [vS [it.2.1], .ref p2, .ref b]) t2=some (.tup [vS [it.2.1], .ref p2, .ref b]):=aa;generalize upd H12 t2 (.tup [vS [it.2.1], .ref p2, .ref b])=H13 at s13 e13 ⊢;have s1013:=(s11.trans s12).trans s13;have s813:=s810.trans s1013;have etp13:=s813 _ _ etp;have eS13:=(s10.trans s1013) _ _ eS9;have nb8:=s9.free hb;have np1:=s810.free hp1;have np2:=(s810.trans s11).free hp2;have nt2:=((s810.trans s11).trans s12).free ht2;have hSt:tp≠S2:=ak etp hS2;have hbS:b≠S2:=(ak eS9 hb).symm;have hbt:b≠tp:=(ak etp nb8).symm;have h1S:p1≠S2:=(ak (s10 _ _ eS9) hp1).symm;have h1t:p1≠tp:=(ak etp np1).symm;have h1b:p1≠b:=(ak eb10 hp1).symm;have h2S:p2≠S2:=(ak ((s10.trans s11) _ _ eS9) hp2).symm;have h2t:p2≠tp:=(ak etp np2).symm;have h2b:p2≠b:=(ak (s11 _ _ eb10) hp2).symm;have h3S:t2≠S2:=(ak (((s10.trans s11).trans s12) _ _ eS9) ht2).symm;have h3t:t2≠tp:=(ak etp nt2).symm;have h3b:t2≠b:=(ak ((s11.trans s12) _ _ eb10) ht2).symm;have dead:∀{y:Addr},H8 y=none->y∉as2:=λn z=>by obtain⟨_,e⟩:=hlive _ z;rw[n] at e;cases e
   refine⟨tp,_,_,rfl,rfl,etp13,by rw[hs];omega,?_⟩
   left
   have eS14:upd H13 tp (.lst (vs++[.ref t2])) S2=some (.lst (as2.map V.ref)):=by rw[ag (Ne.symm hSt)];exact eS13
   have hal:=hcut.len;refine⟨_,rfl, .inl ⟨rfl,_,SqL.of eS14⟩,_,rfl,S2,_,_,rfl,rfl,eS14,by rw[l0,hal,l30,hs];omega,?_⟩;have up:∀y o,y≠tp->y≠S2->H13 y=some o->upd (upd H13 tp (.lst (vs++[.ref t2]))) S2 (.lst (as2.map V.ref++[.ref b])) y=some o:=λy o n1 n2 e=>by rw[ag n2,ag n1];exact e
   have hpu := hcut.push (H' := upd (upd H13 tp (.lst (vs ++ [.ref t2]))) S2 (.lst (as2.map V.ref ++ [.ref b]))) (a := tp) (b := b) (t := t2) (p := .ref p2) (x := (j, it.2.1, it.2.2)) (vs := vs) htpm etp (by rw [ag hSt, aa]) (fun y o n e => up y o n (ak e hS2) (s813 _ _ e)) nb8 (up _ _ hbt hbS (s1013 _ _ eb10)) nt2 (dead nt2) h3b (up _ _ h3t h3S e13) (gR (Offs.nil.snoc (ft ((Offs.nil.snoc (cZ fun G => dn_k (k := "plain"))).snoc (cZ fun G => dn_S ⟨hok2.asc, hok2.len⟩)) (up _ _ h1t h1S ((s12.trans s13) _ _ e11)) (fun z => z.elim (dead np1) h1b))) (up _ _ h2t h2S (s13 _ _ e12)) (fun z => z.elim (dead np2) h2b) (by show 1 <= _; decide)) (hok2.lv j) ini has (by
    rw[has] at hnd2;exact λz=>(List.nodup_append.mp hnd2).2.2 tp z tp l8 rfl)
   have hf:=m4 (n:=6) (sp:=sp) (j:=j) (E:=E') (x:=(j,it.2.1,it.2.2)) (r:=xs.drop (k+1)) hsp hj5.2 hj5.1 (l52 _ _);have hpl:=qB (E:=E') (x:=(j,it.2.1,it.2.2)) hj5.2;rw[t7 hj5.2] at hf hpl;refine⟨_,_,S2,as2++[b],_,_,rfl,λy o e=>up y o (nq (hnew2 tp htpm) e) (ak (s8 _ _ e) hS2) (s813 _ _ (s8 _ _ e)),by rw[aa,l15];rfl,hpu.mono λy hy=>?_,?_,λy hy=>?_,?_,by rw[hpl];omega,?_,by rw[hx1,hpl]⟩
   ·rcases l21.mp hy with z |z
    ·exact .inl z
    ·exact .inr (l14.mp z)
   ·rw[List.nodup_append];exact⟨hnd2,by simp,λy hy z hz=>by rw[l14.mp hz];exact λw=>dead nb8 (w▸hy)⟩
   ·rcases l21.mp hy with z |z
    ·exact hnew2 y z
    ·rw[l14.mp z];exact s8.free nb8
   ·rw[l64 (by rw[has];simp)];exact hF2
   ·rw[<- hf,<- hfin,hrun,hx1]
  ·rintro σ H8 ⟨x3',x13,St,as,sp,E',rfl,s8,eSt8,hst,hnd,v9,hF1,hsp,hfin,hrun⟩;rw[hrun,l45] at hfin;exact hN _ _ ⟨x3',_,x13,as,sp,E',rfl,s8,hst.more12 hil,hF1,hsp,hfin⟩
 rintro σ H8 ⟨x3',x12,x13,as,sp,E',rfl,s8,hst,hF1,hsp,hfin⟩;rw[qz hsp,fin0] at hfin;have hfin:clo sp E'=[]++(entR 6 xs).1.map (dE 6):=congrArg Prod.fst hfin;rw[l42] at hfin;obtain⟨F',r',vs,has,eF',hof,hvl⟩:=hst.clo (W':=λ_=>False) nofun (λ_ z=>z.elim) λ_ _ z=>z;have hFF:F'=F:=by rw[has] at hF1;exact(List.cons.inj hF1).1
 rw[hFF] at eF';refine⟨_,rfl,_,rfl,bg2,λu1 hu1=>⟨bg2,λu2 hu2=>?_⟩⟩;have s9:=ac hu1 (.tup [V.str "list", .ref F]);have s10:=ac hu2 (.tup [V.ref X, .ref u1]);refine q u2 _ (.mk X (.ref u1) rs (.lst (entR 6 (lvs (x0::ir))).1:BkF (Bl 3)) ((((s3.trans s5).trans s8).trans s9).trans s10) aa (s10 _ _ (s9 _ _ (s8 _ _ eX5))) ?_ (RdX.list hir hne) hrw);show Dn _ _ (.tuple [.str "list", .list (((entR 6 (lvs (x0::ir))).1).map (dE 6))]);rw[<- hxs,<- hfin];exact .tup (s10 _ _ aa) (.cons (dn_k (k:="list")) (.cons (.lst ((s9.trans s10) _ _ eF') (hof.dn.same (s9.trans s10)) nofun) .nil))
end
end K15
namespace L2
open PySem PySem.Spec PyProof.Rows
section
variable {X:Cx}{scope:Scope}{cl:List (Str×Addr)}{C:Addr}{N':List Str}{fp:List Addr}{s:Shared}{H:Hp}
def xilC {tg l:Expr}{tl:TE}(h:XE (aK X scope cl C N' fp s H) l tl):XI (aK X scope cl C N' fp s H) tg l (iList X.K tl):=xil h
def ju:OpR (aK X scope cl C N' fp s H) (compareOp .NotIn) (rIn X.K true):=jI (X:=aK X scope cl C N' fp s H)
end
def vH {n:Nat}{k:Nat}{fr:List Nat}{g:TG}{tt:TT}{te:TE}{σ:St}{H0:Hp}{Q:Addr->Hp->Prop}(lo:Int)(f:Nat->PyData)(hl:n<=100000)
  (ht:∀i,i < n->∀H',Same H0 H'->∀(C:V->Hp->Prop)(N:Hp->Prop),(∀v H4,Same H' H4->Dn (dif H' H4) v (f i)->C v H4) →
   g (.int (lo+(i:Nat))) (nfS k fr σ) H' λσ2 H2=>nfLe k fr σ σ2/\tt σ2 H2 λb H3=>if b=true then te σ2 H3 C else N H3)
  (hq:∀D H' ys,H0 D=none->Same H0 H'->H' D=some (.lst ys)->DnAll (dif H0 H') ys ((List.range n).map f)->Q D H'):rLC k fr g tt te σ (Itr lo n) H0 Q:=by
 intro D hD;refine⟨λi m acc H=>m=n - i/\i<=n/\Same H0 H/\H D=some (.lst acc)/\Offs (λb=>b=D ∨ H0 b≠none) H acc ((List.range i).map f),⟨n,by simp,l10 _,ac hD _,aa, .nil⟩,?_⟩;rintro i m acc H ⟨rfl,hi,sm,hDa,hof⟩;refine⟨hDa,?_⟩;have hal:acc.length=i:=by rw[hof.len,l0,l38]
 by_cases hlt:i < n
 ·refine .inr ⟨hlt,?_⟩;rintro x H' ⟨rfl,rfl⟩;refine ht i hlt _ sm _ _ λv H4 s4 dv=>?_;have o4:Off (λb=>b=D ∨ H0 b≠none) H4 v (f i):=Off.new dv λb hb=>by
   rcases hb with rfl |hb
   ·rw[hDa];simp
   ·cases q:H0 b with
    |none=>exact absurd q hb
    |some o=>rw[sm _ _ q];simp
  refine⟨s4 _ _ hDa,by rw[sizeLine_eq];omega,n - (i+1),by omega,rfl,hlt,af hD (sm.trans s4),aa,?_⟩;rw[l63,l15];exact((hof.same s4).snoc o4).upd (.inl rfl)
 ·have e:i=n:=by omega
  subst e;exact .inl ⟨by show i<=i;omega,hq D H acc hD sm hDa (hof.toDif λb hb => .inr hb)⟩
end L2
namespace K15
open PySem L2 Lm Lw
def tsA:List (List Nat):=[[97],[98,32,99],[],[45],[45,45,58],[120]]
def tsB:List (List Nat):=[[58],[45],[45,32,45],[58,58],[45,58,45],[45,45]]
def cellTs:List (List Nat):=tsA++tsB++[[45,45,45],[45,58]]
def ruls:List (List Nat):=[[45],[45,45],[45,45,45],[45,58],[45,45,58]]
structure CellOk (t:List Nat):Prop where
 bar:oe t
 gd:GdR t
 len:t.length<=3
 nm:NoMk t
 rul:b5 t=ruls.contains t
 side:ruls.contains t=true->isR t=t.contains 58
def sW:(cellTs.all λt=>decide (bR t=t)&&t.all (λc=>decide (c < 128/\c≠10/\c≠9/\c≠124/\c≠92/\c≠42/\c≠96/\c≠91))&&decide (t.length<=3)&&decide (b5 t=ruls.contains t)&&(!ruls.contains t||decide (isR t=t.contains 58)))=true:=by decide
def dI {t:List Nat}(h:t∈cellTs):CellOk t:=by
 have h:=l22.mp sW t h;simp only[Bool.and_eq_true,decide_eq_true_iff,Bool.or_eq_true] at h;obtain⟨⟨⟨⟨h1,h2⟩,h3⟩,h4⟩,h5⟩:=h;have h2:∀c∈t,c < 128/\c≠10/\c≠9/\c≠124/\c≠92/\c≠42/\c≠96/\c≠91:=λc hc=>of_decide_eq_true (l22.mp h2 c hc);refine⟨⟨h1,λc hc=>⟨(h2 c hc).2.2.2.1,(h2 c hc).2.2.2.2.1⟩⟩,λc hc=>⟨(h2 c hc).1,(h2 c hc).2.1,(h2 c hc).2.2.1⟩,h3,λc hc=>(h2 c hc).2.2.2.2,h4,λz=>?_⟩;rcases h5 with y |y
 ·rw[z] at y;cases y
 ·exact y
def CellOk.asc {t:List Nat}(h:CellOk t):Asc t:=λc hc=>(h.gd c hc).1
def qO (tss:List (List (List Nat))):Prop:=∀ts∈tss,1<=ts.length/\ts.length<=4/\∀t∈ts,t∈cellTs
def t8 {H:Hp}{D:Addr}{ds:List PyData}(h:Dn H (.ref D) (.list ds)):∃ys,H D=some (.lst ys)/\DnAll H ys ds/\ys.length<=100000:=by
 cases h with
 |lst e r l=>exact⟨_,e,r,l⟩
def ix {ts:List (List Nat)}(h:∀t∈ts,t∈cellTs):(bY ts).length<=1+5 * ts.length/\GdR (bY ts):=by
 have:((ts.map λt=>32::t++[124]).flatten).length<=5 * ts.length/\GdR (ts.map λt=>32::t++[124]).flatten:=by
  induction ts with
  |nil=>exact⟨l5 _,λ_ z=>nomatch z⟩
  |cons t ts ih=>
   obtain⟨a,b⟩:=ih λx hx=>h x (l7 _ hx);have k:=dI (h t l8);refine⟨?_,λc hc=>?_⟩
   ·rw[l12,l35,l6,l6,l4,l4];have:=k.len;show t.length+1+1+_<=5 * (ts.length+1);omega
   ·rw[l12,l35] at hc;rcases l21.mp hc with z |z
    ·rcases l21.mp z with z |z
     ·rcases l9.mp z with z |z
      ·rw[z];decide
      ·exact k.gd c z
     ·rw[l14.mp z];decide
    ·exact b c z
 refine⟨by show _+1<=_;omega,λc hc=>?_⟩;rcases l9.mp hc with z |z
 ·rw[z];decide
 ·exact this.2 c z
theorem ua:∀{tss:List (List (List Nat))},qO tss->Tk dm true (tss.map bY) tss
 | [],_=>trivial
 |ts::tss,h=>by
  obtain⟨a,b,k⟩:=h ts l8;refine⟨?_,ua λx hx=>h x (l7 _ hx)⟩;rw[aW,sO (by intro z;rw[z] at a;exact absurd a ∅) λt ht=>(dI (k t ht)).bar];rfl
theorem ub:∀{tss:List (List (List Nat))},qO tss->RwS (22 * tss.length) (tss.map bY)
 | [],_=>⟨l5 _,λ_ z=>nomatch z⟩
 |ts::tss,h=>by
  obtain⟨a,b,k⟩:=h ts l8;obtain⟨z1,z2⟩:=ix k;exact((RwS.one (m:=22) z2 nofun).app (ub λx hx=>h x (l7 _ hx))).le (by rw[l4];omega)
theorem uc {α:Type}{R:Addr->α->Prop}{D:Addr}{x:α}(h:R D x):∀{as:List Addr} {xs:List α} {i:Nat},Ls R as xs->Ls R (as.set i D) (xs.set i x)
 | [],[],_,k=>k
 | [],_::_,_,k=>k.elim
 |_::_,[],_,k=>k.elim
 |_::_,_::_,0,k=>⟨h,k.2⟩
 |_::_,_::_,_+1,k=>⟨k.1,uc h k.2⟩
theorem glue_flat:∀ps:List (List Nat),ao [] ps=ps.flatten
 | []=>rfl
 | [p]=>(l17 p).symm
 |p::r::ps=>by
  have ih:=glue_flat (r::ps);rw[bj _ _ _ (by simp),ih,l17];rfl
def xx:(cellTs.all λt=>inV (vS t) (ruls.map vS)==ruls.contains t)=true:=by decide
def qP {t:List Nat}(h:t∈cellTs):inV (vS t) (ruls.map vS)=b5 t:=by
 have:=l22.mp xx t h;rw[(dI h).rul];exact eq_of_beq this
def vI {G:Hp}{v:V}:∀{ks:List Str},Dn G v (.tuple (ks.map .str))->∃p,v = .ref p/\G p=some (.tup (ks.map V.str)):=λ{ks} h=>by
 have:∀{ks:List Str} {vs:List V},DnAll G vs (ks.map .str)->vs=ks.map V.str:=by
  intro ks
  induction ks with
  |nil=>intro vs h;cases h;rfl
  |cons k ks ih=>
   intro vs h;cases h with
   |cons a b=>
    cases a;rw[ih b];rfl
 generalize hd:PyData.tuple (ks.map .str)=d at h;cases h with
 |tup e r=>cases hd;exact⟨_,rfl,by rw[e,this r]⟩
 |_=>cases hd
def dCl (t:List Nat):PyData := .list ((aS t).map dP)
def qQ (m:Nat)(ts:List (List Nat)):dt (be m ts) = .list (ts.map dCl++(List.range (m - ts.length)).map λ_ => .list []):=by
 unfold dt be;rw[l19,l15];congr 2;rw[l60,List.map_const',l38];congr 1;show PyData.list ((aS []).map dP)=_;rw[kE];rfl
section
abbrev lV:Stmt:=top 102
inductive spLCells (vs:List V) (H:Hp) (Q:VK) (u3:XK):Prop
 |mk:∀t:List Nat,(vs=[vS t])->t∈cellTs->(∀r H',Same H H'->Dn (dif H H') (.ref r) (.list ((aS t).map dP))->Q (.ref r) H')->spLCells vs H Q u3
def qR (F:Fun K "_law_cells" "_law_cells" lV f fd):FnOk P w K mg base CX0 1 f fd ["_law_text"] spLCells:=by
 have sc:FnScope ["_law_text"] ["_law_text"] (ad lV):=mkS;refine F.oks sc λH Q hr h=>?_;obtain⟨t,rfl,ht,q⟩:=h;have hk:=dI ht;refine ap (xb1 (xret (xifE (ay bx (xv 0) xstr (al _)) (xlst xa0) (xlst (xac (xtup (xac xstr (xac (xv 0) xa0))) xa0))))) ?_;refine⟨_,rfl,rfl,_,rfl,?_⟩;refine ite2 (λc=>?_) λc=>?_
 ·have c:=eqT (a:=t) (b:=[]) c rfl rfl;refine⟨bg0,λr hr=>q r _ (ac hr _) ?_⟩;rw[c,kE];exact .lst (by rw[ar hr];exact aa) .nil (l10 _)
 ·have c:=eqF (a:=t) (b:=[]) c rfl rfl;refine⟨_,rfl,bg2,λp hp=>⟨bg1,λr hr=>q r _ ((ac hp _).trans (ac hr _)) ?_⟩⟩;rw[cO hk.nm c];have s2:=ac hr (.lst [V.ref p]);exact .lst (by rw[ar ((ac hp _).free hr)];exact aa) (.cons (.tup (by rw[ar hp];exact s2 _ _ aa) (.cons (dn_k (k:="plain")) (.cons (dn_S ⟨hk.asc,by have:=hk.len;omega⟩) .nil))) .nil) (by show 1<=_;decide)
abbrev jv:Stmt:=top 103
abbrev qS:List Str:=["_law_script","_law_number","_law_texts","_law_k","_law_row","_law_j","_law_some","_law_rows","_law_many","_law_lines_up","_law_sides"]
inductive spLTable (K:Frag)(vs:List V)(H:Hp)(Q:VK)(u3:XK):Prop
 |mk (a:Addr)(ns:List Int)(_:vs=[.ref a])(_:SqL K H a (ns.map V.int))(_:∀t H',GotB 110 H H' t->Q (.ref t) H')
def na {xs:List V}(ts:List (List Nat)){i:Int}(he:xs=ts.map vS)(hn:0 < ts.length):∃t∈ts,atI xs (i % (ts.length:Int))=some (vS t):=by
 obtain⟨j,hj⟩:∃j:Nat,i % (ts.length:Int)=(j:Int):=⟨(i % (ts.length:Int)).toNat,by have:=Int.emod_nonneg i (show (ts.length:Int)≠0 by omega);omega⟩;have hjl:j < ts.length:=by have:=Int.emod_lt_of_pos i (show (0:Int) < ts.length by omega);omega
 refine⟨ts[j],l43 hjl,?_⟩;rw[hj,he];exact am (by rw[List.getElem?_map,List.getElem?_eq_getElem hjl];rfl)
def qT (F:Fun K "_law_table" "_law_table" jv f fd)(T:TxL mg)(De:Def P w K mg base 1 "_law_cell_at" p13 (spCellAt K))(Di:Def P w K mg base 1 "_law_mixed" p15 spMixed)(Yg:Def P w K mg base 1 "_law_cells" ["_law_text"] spLCells):FnOk P w K mg base CX0 2 f fd ["_law_script"] (spLTable K):=by
 have sc:FnScope qS ["_law_script"] (ad jv):=mkS;refine F.oks sc λ{cdv A _ s _ _}H Q hr h=>?_;obtain⟨a,ns,rfl,hq,q⟩:=h;have hu:(A.deeper (PyProof.Rows.envOfC "_law_table" (ad jv) s.heap.objs.size f cdv)).units+64 < cLine:=by
  have:=hr.un;omega
 refine ap (xbc (xset (i:=1) sc.nd rfl (Or.inr rfl) (xcd Di hr (xac (xcd De hr (xac (xv 0) (xac xint xa0))) (xac xint xa0))))
  (xbc (xst (i:=2) sc.nd (xlst xa0))
  (xbc (xfor PassesOwn.never rfl (xir1 rfl T.q10 (xac (xop au xint (xop bq (xv 1) xint)) xa0)) (xgm (i:=3) sc.nd)
  (xbc (xst (i:=4) sc.nd (xlst xa0))
  (xbc (xfor PassesOwn.never rfl (xir1 rfl T.q10 (xac (xop au xint (xop bq (xcd Di hr (xac (xv 1) (xac (xv 3) xa0))) xint)) xa0)) (xgm (i:=5) sc.nd)
  (xb1 (aZ (xmA (xv 4) (xac (xix ax (xlst (xac xstr (xac xstr (xac xstr (xac xstr (xac xstr (xac xstr xa0))))))) (xop bq (xcd Di hr (xac (xv 1) (xac (xop au (xop au xint (xop fU xint (xv 3))) (xv 5)) xa0))) xint) (λ_ _=>rfl)) xa0)))))
  (xb1 (aZ (xmA (xv 2) (xac (xv 4) xa0)))))))
  (xbc (xif (xand (ay oA (xop bq (xop cx (xv 1) xint) xint) xint (al _)) (gW (ay oA (xcB aj T.u10 PySem.boot_len (xac (xv 2) xa0)) xint (al _)))).xt (xbc (xset (i:=6) sc.nd rfl (Or.inr rfl) (xlst (xac xstr (xac xstr (xac xstr (xac xstr (xac (xix ax (xlst (xac xstr (xac xstr (xac xstr (xac xstr (xac xstr (xac xstr xa0))))))) (xop bq (xop cx (xv 1) xint) xint) (λ_ _=>rfl)) xa0)))))))
  (xb1 (xasg (xlc (cl:=[("_law_some",s.heap.objs.size+2),("_law_number",s.heap.objs.size+1)]) (own:=["_law_j"]) (fr:=[6,1]) (N':=["_law_j","_law_some","_law_number"]) rfl (kS (xs:=["_law_some","_law_number"]) ⟨rfl,⟨rfl,trivial⟩⟩ ⟨rfl,rfl, .inl rfl, .inl rfl,⟨rfl,rfl, .inl rfl, .inl rfl,trivial⟩⟩ ∅) ∅ ∅ (by with_unfolding_all rfl)
  (xir1 rfl T.q10 (xac (xcB aj T.u10 PySem.boot_len (xac (xix ax (xv 2) xint (λ_ _=>rfl)) xa0)) xa0))
  (λ_ _ _ _=>xgm (i:=0) (show (["_law_j","_law_some","_law_number"]:List Str).Nodup by decide)) (λ_ _ _ _=>xq0) (λ_ _ _ _=>(xix mv (xv 1) (xop bq (xcd Di hr (xac (xv 2) (xac (xop au xint (xv 0)) xa0))) xint) (λ_ _=>rfl)))) (xY (xv 2) xint rD)))) xb0)
  (xbc (rO (i:=7) (own:=["_law_row"]) sc.nd
  (xil (xv 2))
  (fun _ _ _ _ => xgm (i := 0) (show (["_law_row"] : List Str).Nodup by decide)) (fun _ _ _ _ => xq0) (fun _ _ _ _ => (xop aJ xstr (xmC plainAttrs_str slot_str_join type_str_join rR xstr (xac (xlc0 (own:=["_law_text"])
  (xilC (xv 0))
  (λ_ _ _ _=>xgm (i:=0) (show (["_law_text"]:List Str).Nodup by decide)) (λ_ _ _ _=>xq0) (λ_ _ _ _=>(xop aJ (xop aJ xstr (xv 0)) xstr))) xa0)))))
  (xbc (xset (i:=8) sc.nd rfl (Or.inr rfl) (xcB (jS rfl) T.z11 rfl (xac (xlc0 (own:=["_law_row"])
  (xil (xv 2))
  (λ_ _ _ _=>xgm (i:=0) (show (["_law_row"]:List Str).Nodup by decide)) (λ_ _ _ _=>xq0) (λ_ _ _ _=>(xcB cC T.u10 PySem.boot_len (xac (xv 0) xa0)))) xa0)))
  (xbc (xslc (i:=9) sc.nd rfl rfl (cl:=[("_law_many",s.heap.objs.size+3)]) (own:=["_law_row"]) (fr:=[8]) (N':=["_law_row","_law_many"]) rfl (kS (xs:=["_law_many"]) ⟨rfl,trivial⟩ ⟨rfl,rfl, .inl rfl, .inl rfl,trivial⟩ ∅) ∅ ∅ (by with_unfolding_all rfl)
  (xil (xv 2))
  (fun _ _ _ _ => xgm (i := 0) (show (["_law_row", "_law_many"] : List Str).Nodup by decide)) (fun _ _ _ _ => xq0) (fun _ _ _ _ => (xop bM (xlc0 (own:=["_law_text"])
  (xilC (xv 0))
  (fun _ _ _ _ => xgm (i := 0) (show (["_law_text"] : List Str).Nodup by decide)) (fun _ _ _ _ => xq0) (fun _ _ _ _ => (xcd Yg hr (xac (xv 0) xa0)))) (xlc0 (own:=["_law_turn"])
  (xir1 rfl T.q10 (xac (xop bp (xv 1) (xcB cC T.u10 PySem.boot_len (xac (xv 0) xa0))) xa0))
  (λ_ _ _ _=>xgm (i:=0) (show (["_law_turn"]:List Str).Nodup by decide)) (λ_ _ _ _=>xq0) (λ_ _ _ _=>(xlst xa0))))))
  (xbc (xif (xor (ay dL (xcB aj T.u10 PySem.boot_len (xac (xv 2) xa0)) xint (al _)) (xor1 (ay (ij hu) (xlc0 (own:=["_law_text"])
  (xil (xix ax (xv 2) xint (λ_ _=>rfl)))
  (λ_ _ _ _=>xgm (i:=0) (show (["_law_text"]:List Str).Nodup by decide)) (λ_ _ _ _=>xq1 (ay ju (xv 0) (wM (xlsc (ka ∅) (xlsc (ka ∅) (xlsc (ka ∅) (xlsc (ka ∅) (xlsc (ka ∅) xls0)))))) (by with_unfolding_all rfl))) (λ_ _ _ _=>(xv 0))) (xlst xa0) (al _)))).xt (xb1 (xret (xtup (xac (xv 7) (xac (xtup (xac xstr (xac (xlst xa0) (xac (xlst xa0) (xac (xv 9) xa0))))) xa0))))) xb0)
  (xbc (xst (i:=10) sc.nd (xop bM (xlc0 (own:=["_law_text"])
  (xil (xix ax (xv 2) xint (λ_ _=>rfl)))
  (λ_ _ _ _=>xgm (i:=0) (show (["_law_text"]:List Str).Nodup by decide)) (λ_ _ _ _=>xq0) (λ_ _ _ _=>(xix mv (xlst (xac xstr (xac xstr xa0))) (xcTy oC T.q15 rfl (xac (xcmp dM xstr (xv 0) (by with_unfolding_all rfl)) xa0)) (λ_ _=>rfl)))) (xop jL (xlst (xac xstr xa0)) (xop bp (xv 8) (xcB aj T.u10 PySem.boot_len (xac (xix ax (xv 2) xint (λ_ _=>rfl)) xa0))))))
  (xb1 (xret (xtup (xac (xv 7) (xac (xtup (xac xstr (xac (xix ax (xv 9) xint (λ_ _=>rfl)) (xac (xv 10) (xac (xsl iE (xv 9) (xo1 xint) xo0) xa0))))) xa0)))))))))))))) ?_
 have hs:=sizeLine_eq;rw[show start qS [V.ref a]=[some (.ref a),none,none,none,none,none,none,none,none,none,none] from rfl];refine⟨_,rfl,a,ns,2,rfl,hq,λi0=>⟨i0,1,rfl,by omega,by omega,λm1 hm1=>?_⟩⟩
 left
 refine⟨bg0,λX hX=>?_⟩
 left
 have s1:=ac hX (.lst []);have e1:upd H X (.lst []) X=some (.lst []):=aa;generalize upd H X (.lst [])=H1 at s1 e1 ⊢;refine bm (λσ H'=>∃(x3 x4 x5:Option V) (as:List Addr) (tss:List (List (List Nat))),σ=[some (.ref a),some (.int m1),some (.ref X),x3,x4,x5,none,none,none,none,none]/\Same H H'/\H' X=some (.lst (as.map V.ref))/\(NewQ H [X] H' λG=>Ls (TxAt G) as tss)/\1<=tss.length/\tss.length<=5/\qO tss) (λN hN=>?_) ?_
 ·refine⟨_,rfl,_,_,rfl,rfl,show (0:Int) < 5 by omega,_,_,rfl,rfl,?_⟩;obtain⟨n,hn⟩:∃n:Nat,1+m1 % 5=(n:Int):=⟨(1+m1 % 5).toNat,by omega⟩;refine⟨(n:Int),congrArg (λz=>[V.int z]) hn,by omega,by omega,?_⟩;rw[l36];refine bP (n:=n) (λi σ H'=>∃(x3 x4 x5:Option V) (as:List Addr) (tss:List (List (List Nat))),σ=[some (.ref a),some (.int m1),some (.ref X),x3,x4,x5,none,none,none,none,none]/\Same H H'/\H' X=some (.lst (as.map V.ref))/\(NewQ H [X] H' λG=>Ls (TxAt G) as tss)/\tss.length=i/\as.length=i/\qO tss) ⟨none,none,none,[],[],rfl,s1,e1,NewQ.triv trivial,rfl,rfl,λ_ z=>nomatch z⟩ ?_ ?_
  ·rintro i σ H2 hi ⟨x3,x4,x5,as,tss,rfl,s2,eX2,hn2,htl,hal,hok⟩
   left
   rw[show (0:Int)+(i:Int)=(i:Int) by omega];refine⟨bg0,λR hR=>?_⟩
   left
   have s3:=ac hR (.lst []);have eR3:upd H2 R (.lst []) R=some (.lst []):=aa;generalize upd H2 R (.lst [])=H3 at s3 eR3 ⊢;refine bm (λσ H'=>∃(x5:Option V) (ts:List (List Nat)),σ=[some (.ref a),some (.int m1),some (.ref X),some (.int (i:Int)),some (.ref R),x5,none,none,none,none,none]/\Same H2 H'/\H' R=some (.lst (ts.map vS))/\1<=ts.length/\ts.length<=4/\∀t∈ts,t∈cellTs) (λN hN=>?_) ?_
   ·refine⟨_,rfl,_,rfl,m1,(i:Int),rfl,by omega,by omega,λm2 hm2=>⟨_,_,rfl,rfl,show (0:Int) < 4 by omega,_,_,rfl,rfl,?_⟩⟩;obtain⟨n2,hn2'⟩:∃n2:Nat,1+m2 % 4=(n2:Int):=⟨(1+m2 % 4).toNat,by omega⟩;refine⟨(n2:Int),congrArg (λz=>[V.int z]) hn2',by omega,by omega,?_⟩;rw[l36];refine bP (n:=n2) (λj σ H'=>∃(x5:Option V) (ts:List (List Nat)),σ=[some (.ref a),some (.int m1),some (.ref X),some (.int (i:Int)),some (.ref R),x5,none,none,none,none,none]/\Same H2 H'/\H' R=some (.lst (ts.map vS))/\ts.length=j/\∀t∈ts,t∈cellTs) ⟨x5,[],rfl,s3,eR3,rfl,λ_ z=>nomatch z⟩ ?_ ?_
    ·rintro j σ H4 hj ⟨x5,ts,rfl,s4,eR4,hsl,hst⟩
     left
     rw[show (0:Int)+(j:Int)=(j:Int) by omega];refine⟨_,rfl, .inl ⟨rfl,_,SqL.of eR4⟩,bg6,λL hL=>⟨_,rfl,_,rfl,_,_,rfl,rfl, .inl nofun,_,_,rfl,rfl,_,rfl,_,_,rfl,rfl,m1,10+4 * (i:Int)+(j:Int),rfl,by omega,by omega,λm3 hm3=>?_⟩⟩;obtain⟨t,ht,hat⟩:=na (xs:=tsA.map vS) tsA (i:=m3) rfl ∅;refine⟨_,_,rfl,rfl,show (0:Int) < 6 by omega,L,_,_,vS t,rfl,rfl,SqL.of aa,hat,?_⟩;have s5:=ac hL (.lst (tsA.map vS));refine⟨R,_,_,rfl,rfl,s5 _ _ eR4,by rw[l0,hs];omega,?_⟩;refine⟨_,ts++[t],rfl,af hR (s4.trans s5),by rw[aa,l15];rfl,by rw[l6,hsl];rfl,λx hx=>?_⟩;rcases l21.mp hx with z |z
     ·exact hst x z
     ·rw[l14.mp z];exact l49 _ (l49 _ ht)
    ·rintro σ H4 ⟨x5,ts,rfl,s4,eR4,hsl,hst⟩;exact hN _ _ ⟨x5,ts,rfl,s4,eR4,by omega,by omega,hst⟩
   rintro σ H4 ⟨x5',ts,rfl,s4,eR4,hl1,hl4,hst⟩;have eX4:=s4 _ _ eX2;have hRX:R≠X:=(ak eX2 hR).symm;refine⟨_,rfl, .inl ⟨rfl,_,SqL.of eX4⟩,_,rfl,X,_,_,rfl,rfl,eX4,by rw[l0,hs];omega,?_⟩;refine⟨_,_,_,as++[R],tss++[ts],rfl,af hX (s2.trans s4),by rw[aa,l15];rfl,?_,by rw[l6,htl];rfl,by rw[l6,hal];rfl,λx hx=>?_⟩
   ·refine NewQ.upd ?_ l8;refine NewQ.join (hn2.same s4) (NewQ.of (H3:=H2) (R:=λG=>TxAt G R ts) s2 (λb' hb' z=>?_) ?_) (λG G' s h=>h.mono λa x=>nV _ _ _ _ s) (λG G' s h=>nV _ _ _ _ s h) λG h1 h2=>h1.snoc h2
    ·rw[l14.mp hb',eX2] at z;cases z
    ·show dif _ _ _=_;rw[ar hR];exact eR4
   ·rcases l21.mp hx with z |z
    ·exact hok x z
    ·rw[l14.mp z];exact⟨hl1,hl4,hst⟩
  ·rintro σ H2 ⟨x3,x4,x5,as,tss,rfl,s2,eX2,hn2,htl,hal,hok⟩;exact hN _ _ ⟨x3,x4,x5,as,tss,rfl,s2,eX2,hn2,by omega,by omega,hok⟩
 rintro σ H2 ⟨x3,x4,x5,as,tss,rfl,s2,eX2,hn2,hl1,hl5,hok⟩;refine bm (λσ H'=>∃(x6:Option V) (as:List Addr) (tss:List (List (List Nat))),σ=[some (.ref a),some (.int m1),some (.ref X),x3,x4,x5,x6,none,none,none,none]/\Same H H'/\LAt TxAt H' X tss/\1<=tss.length/\tss.length<=5/\qO tss) (λN hN=>?_) ?_
 ·have hls:Ls (TxAt H2) as tss:=let ⟨G,g1,_,_,g2⟩:=hn2;g2.mono λa x=>nV _ _ _ _ g1
  have hal:=hls.len;refine s_if (decide (0 < m1 / 5 % 4)&&decide (1 < tss.length)) (dk _ _ (λR k=>⟨_,rfl,_,_,rfl,rfl,⟨by omega,by omega⟩,_,_,rfl,rfl,show (0:Int) < 4 by omega,_,_,rfl,rfl,_,rfl,k _ (Same.refl _)⟩) λ_ H3 s3=>cR (cX (K:=K) (ta:=tVar 2) (ev_v rfl) (.inl (SqL.of (s3 _ _ eX2)))) ev_c (eM (by rw[l0,hal];omega))) (λH3 s3 z=>?_) λH3 s3 _=>?_
  ·rw[Bool.and_eq_true] at z;have hl2:1 < tss.length:=of_decide_eq_true z.2;refine⟨bg6,λL1 hL1=>?_⟩;obtain⟨t,ht,hat⟩:=na (xs:=tsB.map vS) tsB (i:=m1 / 20) rfl ∅;refine⟨_,rfl,_,_,rfl,rfl,⟨by omega,by omega⟩,_,_,rfl,rfl,show (0:Int) < 6 by omega,L1,_,_,vS t,rfl,rfl,SqL.of aa,hat,bg5,λL2 hL2=>?_⟩
   left
   obtain⟨sm,hsm⟩:∃sm:List (List Nat),sm=[[45],[45,45,45],[45,58],[45,45,58],t]:=⟨_,rfl⟩;have hsl:sm.length=5:=by rw[hsm];rfl
   have hsc:∀x∈sm,x∈cellTs:=by
    rw[hsm];intro x hx;rcases l9.mp hx with z |hx
    ·rw[z];decide
    rcases l9.mp hx with z |hx
    ·rw[z];decide
    rcases l9.mp hx with z |hx
    ·rw[z];decide
    rcases l9.mp hx with z |hx
    ·rw[z];decide
    ·rw[l14.mp hx];exact l49 _ (l34 _ ht)
   have s4:=(s3.trans (ac hL1 (.lst [V.str ":", .str "-", .str "- -", .str "::", .str "-:-", .str "--"]))).trans (ac hL2 (.lst [V.str "-", .str "---", .str "-:", .str "--:",vS t]));have eL4:upd (upd H3 L1 (.lst [V.str ":", .str "-", .str "- -", .str "::", .str "-:-", .str "--"])) L2 (.lst [V.str "-", .str "---", .str "-:", .str "--:",vS t]) L2=some (.lst (sm.map vS)):=by rw[aa,hsm];rfl
   generalize upd (upd H3 L1 (.lst [V.str ":", .str "-", .str "- -", .str "::", .str "-:-", .str "--"])) L2 (.lst [V.str "-", .str "---", .str "-:", .str "--:",vS t])=H4 at s4 eL4 ⊢;obtain⟨a1,ha1⟩:∃a1,as[1]? = some a1:=⟨_,List.getElem?_eq_getElem nofun⟩;have hat1:(as.map V.ref)[1]? = some (.ref a1):=by rw[List.getElem?_map,ha1];rfl
   obtain⟨_,ts1,hv,hts1,_,hx1⟩:=hls.get hat1;cases hv;have hx1:H2 a1=some (.lst (ts1.map vS)):=hx1;obtain⟨h1,h4,h1t⟩:=hok ts1 (l16 hts1);refine⟨_,rfl,X,_,1,_,rfl,rfl,SqL.of (s4 _ _ eX2),am (j:=1) hat1,a1,_,rfl, .inl (SqL.of (s4 _ _ hx1)),?_⟩;refine⟨((ts1.map vS).length:Int),rfl,by omega,by rw[l0];omega,?_⟩;rw[l36,l0];refine pe 0 (λv=>∃t,v=vS t/\t∈cellTs) (by rw[hs];omega) ?_ ?_
   ·intro i hi H' s' C N hC;refine⟨(nfLe.refl _ _ _).set ∅ _,iteT (B:=N H') ⟨_,rfl,_,rfl,_,rfl,_,_,rfl,rfl,m1,40+(0+(i:Int)),rfl,by omega,by omega,λm3 hm3=>?_⟩⟩;obtain⟨t,ht,hat⟩:=na (xs:=sm.map vS) sm (i:=m3) rfl nofun;rw[hsl] at hat;exact⟨_,_,rfl,rfl,show (0:Int) < 5 by omega,L2,_,_,vS t,rfl,rfl,SqL.of (s' _ _ eL4),hat,hC _ _ (Same.refl _) ⟨t,rfl,hsc t ht⟩⟩
   ·intro D H5 ys hD s5 eD hyl hys;obtain⟨ts2,rfl,hts2⟩:=mF (p:=λt=>t∈cellTs) hys;rw[l0] at hyl;have s45:=s4.trans s5;refine⟨_,rfl,X,_,1,1,rfl,rfl,s45 _ _ eX2,?_,?_⟩
    ·unfold ixN;rw[l0,if_pos nofun,if_pos nofun];rfl
    have hn6:NewQ H [X] (upd H5 X (.lst ((as.map V.ref).set 1 (.ref D)))) λG=>Ls (TxAt G) as tss:=(hn2.same s45).upd l8;have eX5:=s45 _ _ eX2;have nD2:=s4.free hD;have hDX:D≠X:=(ak (s4 _ _ eX2) hD).symm;have hls6:Ls (TxAt (upd H5 X (.lst ((as.map V.ref).set 1 (.ref D))))) as tss:=let ⟨G,g1,_,_,g2⟩:=hn6;g2.mono λa x=>nV _ _ _ _ g1
    refine hN _ _ ⟨_,as,tss.set 1 ts2,rfl,af hX (s2.trans s45),⟨as.set 1 D,by rw[aa,List.map_set],uc (by show upd _ _ _ _=_;rw[ag hDX];exact eD) hls6⟩,by rw[l78];exact hl1,by rw[l78];exact hl5,λx hx=>?_⟩;rcases List.mem_or_eq_of_mem_set hx with y |y
    ·exact hok x y
    ·rw[y];exact⟨by omega,by omega,hts2⟩
  ·exact hN _ _ ⟨_,as,tss,rfl,s2.trans s3,⟨as,s3 _ _ eX2,hls.mono λa x=>nV _ _ _ _ s3⟩,hl1,hl5,hok⟩
 rintro σ H3 ⟨x6,_,tss,rfl,s3,⟨as,eX3,hls⟩,hl1,hl5,hok⟩;clear hn2 eX2 e1 s1 s2;have hal:=hls.len;have htne:tss≠[]:=λz=>by rw[z] at hl1;exact absurd hl1 ∅
 refine⟨_,rfl,X,rfl,⟨_,SqL.of eX3⟩,?_⟩;refine jj (tss.map bY) (SqL.of eX3) (by rw[l0,l0,hal]) (by rw[l0];omega) ?_ ?_
 ·intro i x t hx ht H' s' C N hC;obtain⟨ai,ts,rfl,hti,_,hai⟩:=hls.get hx;rw[List.getElem?_map,hti] at ht;cases ht;obtain⟨h1,h4,hts⟩:=hok ts (l16 hti);obtain⟨z1,z2⟩:=ix hts;have hai:=s' _ _ hai;refine⟨(nfLe.refl _ _ _).set ∅ _,iteT (B:=N H') ⟨rfl,_,rfl,ai,rfl,⟨_,SqL.of hai⟩,?_⟩⟩;refine jj (ts.map λt=>32::t++[124]) (SqL.of hai) (by rw[l0,l0]) (by rw[l0];omega) ?_ ?_
  ·intro j x t hx ht H'' s'' C' N' hC';rw[List.getElem?_map] at hx ht;obtain⟨t0,ht0,rfl⟩:=l44.mp hx;rw[ht0] at ht;cases ht;have hk:=(dI (hts t0 (l16 ht0))).len;refine⟨(nfLe.refl _ _ _).set ∅ _,iteT (B:=N' H'') ⟨_,rfl,_,_,rfl,rfl,by rw[aA,hs];show 1+t0.length<=_;omega,?_⟩⟩;rw[show (Str.ofString " "++S t0)=S (32::t0) from dN [32] t0];refine⟨_,_,rfl,rfl,by rw[aA,l4,hs];show t0.length+1+1<=_;omega,?_⟩;rw[show (S (32::t0)++Str.ofString "|")=S (32::t0++[124]) from dN _ _];exact hC' _ (Same.refl _)
  ·intro D H'' hD s'' eD;have hfit:((((ts.map λt=>32::t++[124]).map S).map (·.length)).sum+((ts.map λt=>32::t++[124]).map S).length * (S []).length)<=sizeLine:=by
    have e0:(S []).length=0:=rfl;rw[e0,Nat.mul_zero,Nat.add_zero,hs,l19,l19];have:∀(l:List (List Nat)),(∀t∈l,t∈cellTs)->(l.map (((λx:Str=>x.length) ∘ S) ∘ λt=>32::t++[124])).sum<=5 * l.length:=by
     intro l
     induction l with
     |nil=>intro _;exact l5 _
     |cons t l ih=>
      intro h;have h1:=ih λx hx=>h x (l7 _ hx);have h2:=(dI (h t l8)).len;rw[l12,l24,l4];have:(((λx:Str=>x.length) ∘ S) ∘ λt=>32::t++[124]) t=t.length+2:=by
       show (S (32::t++[124])).length=_;rw[aA];simp
      rw[this];omega
    have:=this ts hts;omega
   refine⟨S [],D,(ts.map λt=>32::t++[124]).map S,rfl,rfl,SqL.of (by rw[eD,ck]),hfit,?_⟩;rw[bD,glue_flat];refine⟨_,_,rfl,rfl,?_,?_⟩
   ·have h1:(Str.ofString "|").length=1:=rfl;have h2:=aA (ts.map λt=>32::t++[124]).flatten;have:(bY ts).length=(ts.map λt=>32::t++[124]).flatten.length+1:=rfl;rw[h1,hs];omega
   rw[show (Str.ofString "|"++S (ts.map λt=>32::t++[124]).flatten)=S (bY ts) from dN [124] _];exact hC _ s''
 intro Rw H4 hRw s4 eRw
 left
 have eX4:=s4 _ _ eX3;refine⟨_,rfl,X,rfl,⟨_,SqL.of eX4⟩,?_⟩;refine nI (λj=>((tss[j]?).map λts=>V.int (ts.length:Nat)).getD .non) (SqL.of eX4) (by rw[l0,hs];omega) ?_ ?_
 ·intro j x hx H2 s2 C N hC;obtain⟨a,ts,rfl,htj,_,ha⟩:=hls.get hx;refine⟨(nfLe.refl _ _ _).set ∅ _,iteT (B:=N H2) ⟨_,rfl,a,_,rfl, .inl (SqL.of (s2 _ _ (s4 _ _ ha))),?_⟩⟩;have:=hC H2 (Same.refl _);rw[htj] at this;rw[l0];exact this
 intro D H5 hD s5 eD;rw[l0,hal,bd] at eD;refine⟨D,tss.map λts=>((ts.length:Nat):Int),rfl,SqL.of (by rw[eD,l19];rfl),by rw[l0];exact hl1,λmi hmi hmax=>?_⟩;obtain⟨t9,ht9,e9⟩:=lM htne;have hm:mi=((bL tss:Nat):Int):=by
  obtain⟨ts,h1,h2⟩:=l20.mp hmi;have h3:=gM h1;have h4:=hmax _ (l86 ht9);omega
 subst hm;have hm4:bL tss<=4:=by rw[e9];exact(hok t9 ht9).2.1
 have hcl:∀ts∈tss,ts.length<=bL tss:=λts h=>gM h
 left
 have s35:=s4.trans s5;have eX5:=s35 _ _ eX3;have q:∀t H' v,Same H H'->H' t=some (.tup [.ref Rw,v])->H' Rw=some (.lst ((tss.map bY).map vS))->Dn H' v (dBF (dB 3) (tblR tss))->Q (.ref t) H':=λt H' v c1 c2 c3 c4=>q t H' (.mk Rw v (tss.map bY) (tblR tss:BkF (Bl 3)) c1 c2 c3 c4 (RdX.table (ua hok) (by simpa using htne)) ((ub hok).le nofun));unfold tblR at q;generalize bL tss=m at hm4 hcl q ⊢;clear eD hD e9;refine⟨_,rfl,X,rfl,⟨_,SqL.of eX5⟩,?_⟩;refine cW (λi=>((tss[i]?).map λts=>dt (be m ts)).getD .none) (SqL.of eX5) (by rw[l0];omega) ?_ ?_
 ·intro i x hx H6 s6 C N hC;obtain⟨ai,ts,rfl,hti,_,hai⟩:=hls.get hx;obtain⟨h1,h4,hts⟩:=hok ts (l16 hti);have hm':=hcl ts (l16 hti);have hai6:=s6 _ _ (s35 _ _ hai);refine⟨(nfLe.refl _ _ _).set ∅ _,iteT (B:=N H6) ⟨_,rfl,ai,rfl,⟨_,SqL.of hai6⟩,?_⟩⟩;refine cW (λj=>((ts[j]?).map dCl).getD .none) (SqL.of hai6) (by rw[l0];omega) ?_ ?_
  ·intro j x hx H7 s7 C' N' hC';rw[List.getElem?_map] at hx;obtain⟨t0,ht0,rfl⟩:=l44.mp hx;refine⟨(nfLe.refl _ _ _).set ∅ _,iteT (B:=N' H7) ⟨_,rfl,t0,rfl,hts t0 (l16 ht0),λr H8 s8 d8=>hC' _ _ s8 ?_⟩⟩;rw[ht0];exact d8
  intro D1 H7 hD1 s7 d7;rw[l0,bd] at d7;obtain⟨ys1,ey1,dy1,ly1⟩:=t8 d7;refine⟨_,rfl,_,rfl,ai,_,rfl, .inl (SqL.of (s7 _ _ hai6)),_,_,rfl,rfl,?_⟩;refine⟨((m - ts.length:Nat):Int),congrArg (λz=>[V.int z]) (show (m:Int) - ((ts.map vS).length:Int)=_ by rw[l0];omega),by omega,by omega,?_⟩;rw[l36];refine vH 0 (λ_ => .list []) nofun ?_ ?_
  ·intro j hj H8 s8 C' N' hC';refine⟨(nfLe.refl _ _ _).set ∅ _,iteT (B:=N' H8) ⟨bg0,λp hp=>hC' _ _ (ac hp _) (.lst (by rw[ar hp];exact aa) .nil (l10 _))⟩⟩
  intro D2 H8 ys2 hD2 s8 ey2 dy2;have ey1:=(dX ey1).2;have hy2:=dy2.len;have hy1:=dy1.len;rw[l0] at hy1;rw[l0,l38] at hy2;refine⟨D1,D2,ys1,ys2,rfl,rfl,s8 _ _ ey1,ey2,by rw[hs];omega,λp hp=>hC _ _ ((s7.trans s8).trans (ac hp _)) ?_⟩;rw[hti];show Dn _ _ (dt (be m ts));rw[qQ];have s9:=ac hp (.lst (ys1++ys2));exact .lst (by rw[ar ((s7.trans s8).free hp)];exact aa) ((dy1.same (av (Same.refl _) (s8.trans s9))).app (dy2.same (av s7 s9))) (by rw[l6];omega)
 intro Lu H6 hLu s6 dLu;rw[l0,hal,bd] at dLu
 left
 obtain⟨lv,elv,dlv,llv⟩:=t8 dLu;have elv:=(dX elv).2;have dlv:=dlv.same (dif_same (H:=H5));have s36:=s35.trans s6;have eX6:=s36 _ _ eX3;have eR6:=(s5.trans s6) _ _ eRw;refine s_if (decide (tss.length < 2) || !(tss.getD 1 []).all b5) (t_or _ _ (cR (cX (K:=K) (ta:=tVar 2) (ev_v rfl) (.inl (SqL.of eX6))) ev_c (eM (by rw[l0,hal];omega))) λhz H7 s7=>λR' k=>?_) (λH7 s7 z=>?_) λH7 s7 z=>?_
 ·have h2:=of_decide_eq_false hz;obtain⟨a1,ha1⟩:∃a1,as[1]? = some a1:=⟨_,List.getElem?_eq_getElem nofun⟩;have hat:(as.map V.ref)[1]? = some (.ref a1):=by rw[List.getElem?_map,ha1];rfl
  obtain⟨_,ts,hv,hts,_,hx⟩:=hls.get hat;cases hv;have e1:tss.getD 1 []=ts:=by rw[l23,hts];rfl
  rw[e1] at k;obtain⟨h1,h4,hts⟩:=hok ts (l16 hts);have hx7:=s7 _ _ (s36 _ _ hx);refine⟨_,rfl,X,_,1,_,rfl,rfl,SqL.of (s7 _ _ eX6),am (j:=1) hat,a1,rfl,⟨_,SqL.of hx7⟩,?_⟩;refine oS (λv => !inV v (ruls.map vS)) id (SqL.of hx7) (by rw[l0,hs];omega) ?_ ?_
  ·intro v hv H8 s8 C N hC hN;obtain⟨t,ht,rfl⟩:=l20.mp hv;refine⟨(nfLe.refl _ _ _).set ∅ _,_,rfl,λv5 H9 s9 d9=>?_⟩;obtain⟨p,rfl,ep⟩:=vI (ks:=[Str.ofString "-",Str.ofString "--",Str.ofString "---",Str.ofString "-:",Str.ofString "--:"]) d9;refine⟨p,ruls.map vS,rfl, .inr (SqT.of (dif_same _ _ ep)),rfl,by decide,_,rfl,?_⟩;rw[if_pos rfl];refine ite2 (λc=>⟨_,rfl,hC _ s9 c⟩) λc=>hN _ s9 (Bool.eq_false_iff.mpr c)
  ·intro D H8 hD s8 eD;refine⟨bg0,λz0 hz0=>⟨D,z0,_,rfl,rfl,SqL.of (ac hz0 _ _ _ eD),SqL.of aa,_,rfl,?_⟩⟩;rw[if_pos rfl,l61];have:(!(List.filter (λv => !inV v (ruls.map vS)) (ts.map vS)).isEmpty) = !ts.all b5:=by
    congr 1;rw[Bool.eq_iff_iff,List.isEmpty_iff,List.filter_eq_nil_iff,l22];constructor
    ·intro h t ht;have:=h (vS t) (l86 ht);rw[qP (hts t ht)] at this;simpa using this
    ·intro h v hv;obtain⟨t,ht,rfl⟩:=l20.mp hv;rw[qP (hts t ht),h t ht];decide
   rw[this];exact k _ (s8.trans (ac hz0 _))
 ·have hc:tss.length < 2 ∨ (tss.getD 1 []).all b5=false:=by
   rw[Bool.or_eq_true] at z;rcases z with z |z
   ·exact .inl (of_decide_eq_true z)
   ·exact .inr (by simpa using z)
  rw[if_pos hc] at q;refine⟨_,rfl,bg0,λp1 hp1=>⟨bg0,λp2 hp2=>⟨_,rfl,bg4,λu1 hu1=>⟨bg2,λu2 hu2=>?_⟩⟩⟩⟩;have t1:=ac hp1 (.lst []);have t2:=ac hp2 (.lst []);have t3:=ac hu1 (.tup [V.str "table", .ref p1, .ref p2, .ref Lu]);have t4:=ac hu2 (.tup [V.ref Rw, .ref u1]);have t14:=((t1.trans t2).trans t3).trans t4;refine q u2 _ _ (s3.trans (s36.trans (s7.trans t14))) aa ((s7.trans t14) _ _ eR6) ?_;have hd:=(DnAll.same (s7.trans t14) dlv);refine .tup (t4 _ _ aa) (.cons (dn_k (k:="table")) (.cons (.lst ((t2.trans (t3.trans t4)) _ _ aa) .nil (l10 _)) (.cons (.lst ((t3.trans t4) _ _ aa) .nil (l10 _)) (.cons ?_ .nil))));rw[l19];exact .lst ((s7.trans t14) _ _ elv) hd llv
 ·have hc:¬ (tss.length < 2 ∨ (tss.getD 1 []).all b5=false):=by
   rw[Bool.or_eq_false_iff] at z;rintro(y |y)
   ·exact absurd y (of_decide_eq_false z.1)
   ·rw[y] at z;exact absurd z.2 ∅
  rw[if_neg hc] at q;have h2:2<=tss.length:=by omega
  obtain⟨a1,ha1⟩:∃a1,as[1]? = some a1:=⟨_,List.getElem?_eq_getElem nofun⟩;have hat:(as.map V.ref)[1]? = some (.ref a1):=by rw[List.getElem?_map,ha1];rfl
  obtain⟨_,ts,hv,hts1,_,hx⟩:=hls.get hat;cases hv;have e1:tss.getD 1 []=ts:=by rw[l23,hts1];rfl
  rw[e1] at q hc;obtain⟨h1,h4,hts⟩:=hok ts (l16 hts1);have hm':=hcl ts (l16 hts1);have j9:∀t∈ts,b5 t=true:=λt ht=>by
   by_cases y:b5 t=true
   ·exact y
   ·exfalso;refine hc (.inr ?_);rw[<- Bool.not_eq_true,l22];exact λz=>y (z t ht)
  have hx7:=s7 _ _ (s36 _ _ hx);refine⟨_,rfl,X,_,1,_,rfl,rfl,SqL.of (s7 _ _ eX6),am (j:=1) hat,a1,rfl,⟨_,SqL.of hx7⟩,?_⟩;refine jj (ts.map λt=>bH (isR t)) (SqL.of hx7) (by rw[l0,l0]) (by rw[l0];omega) ?_ ?_
  ·intro j x t hx ht H8 s8 C N hC;rw[List.getElem?_map] at hx ht;obtain⟨t0,ht0,rfl⟩:=l44.mp hx;rw[ht0] at ht;cases ht;have hk:=dI (hts t0 (l16 ht0));have hside:isR t0=t0.contains 58:=hk.side (by rw[<- hk.rul];exact j9 t0 (l16 ht0));refine⟨(nfLe.refl _ _ _).set ∅ _,iteT (B:=N H8) ⟨bg2,λL hL=>⟨_,rfl,_,_,rfl,rfl, .inr ⟨_,rfl,?_⟩⟩⟩⟩;rw[show (!(Builtin.Str.occurrences (S t0) (Str.ofString ":") 0 (S t0).length 1).isEmpty)=t0.contains 58 from c6 _ _,<- hside];refine⟨L,_,_,vS (bH (isR t0)),rfl,rfl,SqL.of aa,?_,hC _ (ac hL _)⟩;cases isR t0 <;> rfl
  intro D H8 hD s8 eD;have s38:=s36.trans (s7.trans s8);refine⟨bg1,λL hL=>⟨_,rfl,_,rfl,X,_,1,_,rfl,rfl,SqL.of ((s38.trans (ac hL _)) _ _ eX3),am (j:=1) hat,a1,_,rfl, .inl (SqL.of ((s38.trans (ac hL _)) _ _ hx)),_,_,rfl,rfl,L,_,_,rfl,rfl,aa,?_,?_,?_,λb hb=>?_⟩⟩
  ·rw[l0];omega
  ·rw[l0];omega
  ·rw[l0,hs];show 1 * _<=_;omega
  rw[l0,show ((m:Int) - (ts.length:Int)).toNat=m - ts.length by omega,l89];have s9:=(ac hL (.lst [V.str "left"])).trans (ac hb (.lst (List.replicate (m - ts.length) (V.str "left"))));have eb9:upd (upd H8 L (.lst [V.str "left"])) b (.lst (List.replicate (m - ts.length) (V.str "left"))) b=some (.lst (List.replicate (m - ts.length) (V.str "left"))):=aa;generalize upd (upd H8 L (.lst [V.str "left"])) b (.lst (List.replicate (m - ts.length) (V.str "left")))=H9 at s9 eb9 ⊢;refine⟨D,b,_,_,rfl,rfl,s9 _ _ eD,eb9,by rw[l0,l0,l32,hs];omega,λsd hsd=>?_⟩
  left
  have esl:(ts.map λt=>bH (isR t)).map vS++List.replicate (m - ts.length) (V.str "left")=((ts.map isR++List.replicate (m - ts.length) false).map bH).map vS:=by
   rw[l15,l15,l19,l19,l19,l60,l60];rfl
  rw[esl];have s10:=s9.trans (ac hsd (.lst (((ts.map isR++List.replicate (m - ts.length) false).map bH).map vS)));have esd:upd H9 sd (.lst (((ts.map isR++List.replicate (m - ts.length) false).map bH).map vS)) sd=some (.lst (((ts.map isR++List.replicate (m - ts.length) false).map bH).map vS)):=aa;generalize upd H9 sd (.lst (((ts.map isR++List.replicate (m - ts.length) false).map bH).map vS))=H10 at s10 esd ⊢;have s610:=(s7.trans s8).trans s10;obtain ⟨v0, hv0, d0⟩ := dlv.get (i := 0) (d := dt (be m (tss.getD 0 []))) (by
   cases tss with
   |nil=>exact absurd rfl htne
   |cons x xs=>rfl)
  refine⟨_,rfl,_,rfl,Lu,_,0,v0,rfl,rfl,SqL.of (s610 _ _ elv),am (j:=0) hv0,_,rfl,_,rfl,_,rfl,Lu,_,rfl,SqL.of (s610 _ _ elv),λL2 hL2=>⟨bg4,λu1 hu1=>⟨bg2,λu2 hu2=>?_⟩⟩⟩;rw[show cutV lv (some 2) none=lv.drop 2 from kz _ 2] at hu1 hu2 ⊢;have t2:=ac hL2 (.lst (lv.drop 2));have t3:=ac hu1 (.tup [V.str "table",v0, .ref sd, .ref L2]);have t4:=ac hu2 (.tup [V.ref Rw, .ref u1]);have t24:=(t2.trans t3).trans t4;have s6u:=s610.trans t24;refine q u2 _ _ (s3.trans (s36.trans s6u)) aa (s6u _ _ eR6) ?_;refine .tup (t4 _ _ aa) (.cons (dn_k (k:="table")) (.cons (d0.same s6u) (.cons ?_ (.cons ?_ .nil))))
  ·have hdS:=nP (G:=upd (upd (upd H10 L2 (.lst (lv.drop 2))) u1 (.tup [V.str "table",v0, .ref sd, .ref L2])) u2 (.tup [V.ref Rw, .ref u1])) (ls:=(ts.map isR++List.replicate (m - ts.length) false).map bH) λl hl=>by
    obtain⟨b,_,rfl⟩:=l20.mp hl;cases b <;> exact⟨by unfold Asc;decide,by decide⟩
   rw[l19 (f:=bH) (g:=λl=>PyData.str (S l))] at hdS;exact .lst (t24 _ _ esd) hdS (by rw[l0,l0,l6,l0,l32];omega)
  ·rw[l19,List.map_drop];exact .lst ((t3.trans t4) _ _ aa) ((dlv.drop 2).same s6u) (by rw[l13];omega)
end
end K15
namespace Lw
open PySem L2 Lm
def offW (T wd:Addr)(ln:Option Addr):Addr->Prop:=λb=>b=T ∨ b=wd ∨ ln=some b
structure FSt (H1 H':Hp)(T wd:Addr)(ln:Option Addr)(ls ws:List (List Nat))(tv:List V)(ds:List PyData):Prop where
 sm:Same H1 H'
 nT:H1 T=none
 nW:H1 wd=none
 hl:∀b,ln=some b->H1 b=none/\b≠T/\b≠wd/\H' b=some (.lst (ls.map vS))
 wT:wd≠T
 eT:H' T=some (.lst tv)
 eW:H' wd=some (.lst (ws.map vS))
 of:Offs (offW T wd ln) H' tv ds
section
variable {H1 H' H2:Hp}{T wd:Addr}{ln:Option Addr}{ls ws:List (List Nat)}{tv:List V}{ds:List PyData}
def FSt.same (h:FSt H1 H' T wd ln ls ws tv ds)(s:Same H' H2):FSt H1 H2 T wd ln ls ws tv ds:=⟨h.sm.trans s,h.nT,h.nW,λb e=>⟨(h.hl b e).1,(h.hl b e).2.1,(h.hl b e).2.2.1,s _ _ (h.hl b e).2.2.2⟩,h.wT,s _ _ h.eT,s _ _ h.eW,h.of.same s⟩
def FSt.base {H0:Hp}(h:FSt H1 H' T wd ln ls ws tv ds)(s:Same H0 H1):FSt H0 H' T wd ln ls ws tv ds:=⟨s.trans h.sm,s.free h.nT,s.free h.nW,λb e=>⟨s.free (h.hl b e).1,(h.hl b e).2⟩,h.wT,h.eT,h.eW,h.of⟩
def FSt.put {t:Addr}{d:PyData}(h:FSt H1 H' T wd ln ls ws tv ds)(k:Off (offW T wd ln) H' (.ref t) d):FSt H1 (upd H' T (.lst (tv++[.ref t]))) T wd ln ls ws (tv++[.ref t]) (ds++[d]):=
 ⟨af h.nT h.sm,h.nT,h.nW,λb e=>⟨(h.hl b e).1,(h.hl b e).2.1,(h.hl b e).2.2.1,by rw[ag (h.hl b e).2.1];exact(h.hl b e).2.2.2⟩,h.wT,aa,by rw[ag h.wT];exact h.eW,(h.of.snoc k).upd (.inl rfl)⟩
def FSt.line {b:Addr}(r:List Nat)(h:FSt H1 H' T wd (some b) ls ws tv ds):FSt H1 (upd H' b (.lst ((ls++[r]).map vS))) T wd (some b) (ls++[r]) ws tv ds:=by
 obtain⟨h1,h2,h3,h4⟩:=h.hl b rfl;exact⟨af h1 h.sm,h.nT,h.nW,λb' e=>by cases e;exact⟨h1,h2,h3,aa⟩,h.wT,by rw[ag (Ne.symm h2)];exact h.eT,by rw[ag (Ne.symm h3)];exact h.eW,h.of.upd (.inr (.inr rfl))⟩
def FSt.word (r:List Nat)(h:FSt H1 H' T wd ln ls ws tv ds):FSt H1 (upd H' wd (.lst ((ws++[r]).map vS))) T wd ln ls (ws++[r]) tv ds:=
 ⟨af h.nW h.sm,h.nT,h.nW,λb e=>⟨(h.hl b e).1,(h.hl b e).2.1,(h.hl b e).2.2.1,by rw[ag (h.hl b e).2.2.1];exact(h.hl b e).2.2.2⟩,h.wT,by rw[ag (Ne.symm h.wT)];exact h.eT,aa,h.of.upd (.inr (.inl rfl))⟩
def FSt.shut (h:FSt H1 H' T wd ln ls ws tv ds):FSt H1 H' T wd none [] ws tv ds:=
 ⟨h.sm,h.nT,h.nW,(λb e=>nomatch e),h.wT,h.eT,h.eW,h.of.mono λb hb=>by
  rcases hb with z |z |z
  ·exact .inl z
  ·exact .inr (.inl z)
  ·cases z⟩
def nc {W W':Addr->Prop}{H:Hp}{b:Addr}{o:HO}{vs:List V}{ds:List PyData}(h:Offs W H vs ds)(hb:H b=none)(hW:∀y,W' y->W y ∨ y=b):Offs W' (upd H b o) vs ds:=by
 obtain⟨G,s,n,k⟩:=h;refine⟨G,s.trans (ac hb o),λy hy=>?_,k⟩;rcases hW y hy with z |z
 ·exact n y z
 ·rw[z];exact s.free hb
def FSt.anew {w':Addr}(hw:H' w'=none)(h:FSt H1 H' T wd none ls ws tv ds):FSt H1 (upd H' w' (.lst [])) T w' none [] [] tv ds:=
 ⟨h.sm.trans (ac hw _),h.nT,h.sm.free hw,(λb e=>nomatch e),(ak h.eT hw).symm,ac hw _ _ _ h.eT,aa,nc h.of hw λy hy=>by
  rcases hy with z |z |z
  ·exact .inl (.inl z)
  ·exact .inr z
  ·cases z⟩
def FSt.opens {b:Addr}(hb:H' b=none)(h:FSt H1 H' T wd none ls ws tv ds):FSt H1 (upd H' b (.lst [])) T wd (some b) [] ws tv ds:=
 ⟨h.sm.trans (ac hb _),h.nT,h.nW,λb' e=>by cases e;exact⟨h.sm.free hb,(ak h.eT hb).symm,(ak h.eW hb).symm,aa⟩,h.wT,ac hb _ _ _ h.eT,ac hb _ _ _ h.eW,nc h.of hb λy hy=>by
  rcases hy with z |z |z
  ·exact .inl (.inl z)
  ·exact .inl (.inr (.inl z))
  ·cases z;exact .inr rfl⟩
end
def qU {W:Addr->Prop}{H:Hp}{vs:List V}{ds:List PyData}(h:DnAll (λ_=>none) vs ds):Offs W H vs ds:=⟨λ_=>none,(λ_ _ z=>nomatch z),(λ_ _=>rfl),h⟩
theorem fS {g:List Nat}:∀{ws:List (List Nat)} {c:Nat},c∈ao g ws->c∈g ∨ ∃w∈ws,c∈w
 | [],_,h=>nomatch h
 | [p],_,h => .inr ⟨p,l8,h⟩
 |p::q::r,c,h=>by
  rw[bj _ _ _ (by simp)] at h;rcases l21.mp h with z |z
  ·rcases l21.mp z with z |z
   ·exact .inr ⟨p,l8,z⟩
   ·exact .inl z
  ·rcases fS z with y |⟨w,hw,y⟩
   ·exact .inl y
   ·exact .inr ⟨w,l7 _ hw,y⟩
theorem kJ {m:Nat}:∀{ws:List (List Nat)},(∀w∈ws,w.length<=m)->(ao [32] ws).length<=ws.length * (m+1)
 | [],_=>l10 _
 | [p],h=>by have:=h p l8;show p.length<=1 * (m+1);omega
 |p::q::r,h=>by
  have h1:=kJ (ws:=q::r) λw hw=>h w (l7 _ hw);have h2:=h p l8;rw[bj _ _ _ (by simp),l6,l6,l4 (a:=p),Nat.succ_mul];show p.length+1+_<=_;omega
def vJ {p:List Nat}{ws:List (List Nat)}(h:p≠[]):ao [32] (p::ws)≠[]:=by
 cases ws with
 |nil=>exact h
 |cons q r=>
  rw[bj _ _ _ (by simp)];simp[h]
end Lw
namespace K15
open PySem L2 Lm Lw
def fcs:List (List Nat):=[[126,126,126],[97],[],[126,126,126,32],[126,126,126,120],[32,126,126,126],[126,126,126],[98,32,99]]
def fws:List (List Nat):=[[97],[126,126,126,120],[126,126,126],[98,32,99]]
def qV:Srt->Bool
 | .fence=>true
 |_=>false
def oh {s:Srt}(h:qV s=true):s = .fence:=by cases s <;> first |rfl |cases h
def qW:Srt->Option (Nat×List Nat)
 | .plain f w=>some (f,w)
 |_=>none
def qX {s:Srt}{f:Nat}{w:List Nat}(h:qW s=some (f,w)):s = .plain f w:=by
 cases s <;> first |cases h |skip
 rfl
inductive FcOk (r:List Nat):Prop
 |fence:aR r=[126,126,126]->aL r = .fence->r≠[]->FcOk r
 |empty:aR r≠[126,126,126]->r=[]->FcOk r
 |word (w:List Nat) (f:Nat):aR r≠[126,126,126]->r≠[]->aL r = .plain f w->Txt.stripChars (S r) (S [32])=S w->w∈fws->FcOk r
def xy:(fcs.all λr=>if aR r=[126,126,126] then qV (aL r)&&decide (r≠[]) else decide (r=[])||(match qW (aL r) with |some (_,w)=>decide (Txt.stripChars (S r) (S [32])=S w)&&decide (w∈fws) |none=>false))=true:=by decide
def sX {r:List Nat}(h:r∈fcs):FcOk r:=by
 have h:=l22.mp xy r h;by_cases c:aR r=[126,126,126]
 ·rw[if_pos c,Bool.and_eq_true] at h;exact .fence c (oh h.1) (of_decide_eq_true h.2)
 ·rw[if_neg c,Bool.or_eq_true] at h;by_cases e:r=[]
  ·exact .empty c e
  ·rcases h with h |h
   ·exact absurd (of_decide_eq_true h) e
   ·cases hp:qW (aL r) with
    |none=>rw[hp] at h;cases h
    |some x=>
     obtain⟨f,w⟩:=x;rw[hp] at h;have h:(decide (Txt.stripChars (S r) (S [32])=S w)&&decide (w∈fws))=true:=h;rw[Bool.and_eq_true] at h;exact .word w f c e (qX hp) (of_decide_eq_true h.1) (of_decide_eq_true h.2)
def lW:∀r∈fcs,r.length<=4/\GdR r:=by
 have:(fcs.all λr=>decide (r.length<=4)&&r.all λc=>decide (c < 128/\c≠10/\c≠9))=true:=by decide
 intro r hr;have:=l22.mp this r hr;rw[Bool.and_eq_true] at this;exact⟨of_decide_eq_true this.1,λc hc=>of_decide_eq_true (l22.mp this.2 c hc)⟩
def oi:∀w∈fws,w.length<=4/\w≠[]/\NoMk w/\Asc w:=by
 have:(fws.all λw=>decide (w.length<=4)&&decide (w≠[])&&w.all λc=>decide (c < 128/\c≠92/\c≠42/\c≠96/\c≠91))=true:=by decide
 intro w hw;have:=l22.mp this w hw;simp only[Bool.and_eq_true,decide_eq_true_iff] at this;have h2:∀c∈w,c < 128/\c≠92/\c≠42/\c≠96/\c≠91:=λc hc=>of_decide_eq_true (l22.mp this.2 c hc);exact⟨this.1.1,this.1.2,λc hc=>(h2 c hc).2,λc hc=>(h2 c hc).1⟩
def vK {w:List Nat}{ws:List (List Nat)}(h:∀x∈w::ws,x∈fws):aS (ao [32] (w::ws))=[.one (.plain (S (ao [32] (w::ws))))]/\Asc (ao [32] (w::ws)):=by
 constructor
 ·refine cO (λc hc=>?_) (vJ (oi w (h w l8)).2.1);rcases fS hc with z |⟨x,hx,z⟩
  ·rw[l14.mp z];decide
  ·exact(oi x (h x hx)).2.2.1 c z
 ·intro c hc;rcases fS hc with z |⟨x,hx,z⟩
  ·rw[l14.mp z];decide
  ·exact(oi x (h x hx)).2.2.2 c z
def lnV:Option Addr->V
 |none => .non
 |some b => .ref b
inductive FGo (rs:List (List Nat)) (i:Nat) (ln:Option Addr) (ls ws:List (List Nat)) (ds:List PyData):Prop
 |go:i<=rs.length->ds++ff (ln.map λ_=>ls) ws (rs.drop i)=dBs rs->(ln≠none->ws=[])->(∀w∈ws,w∈fws)->(∀l∈ls,l∈fcs)->ls.length<=i->ws.length<=i->FGo rs i ln ls ws ds
 |shut:i=rs.length+1->ln=none->ds=dBs rs->FGo rs i ln ls ws ds
 |left (ls0:List (List Nat)):i=rs.length+1->ln≠none->ls=ls0++[[]]->ls0.length<=i->(∀l∈ls0,l∈fcs)->ds++[dLit ls0]=dBs rs->FGo rs i ln ls ws ds
section
abbrev jw:Stmt:=top 104
abbrev ng:List Str:=["_law_script","_law_number","_law_rows","_law_k","_law_told","_law_lines","_law_words","_law_row"]
inductive spFences (K:Frag)(vs:List V)(H:Hp)(Q:VK)(u3:XK):Prop
 |mk (a:Addr)(ns:List Int)(_:vs=[.ref a])(_:SqL K H a (ns.map V.int))(_:∀t r v rs H',Same H H'->H' t=some (.tup [.ref r,v])->H' r=some (.lst (rs.map vS))->Dn H' v (.list (dBs rs))->RwS 45 rs->Q (.ref t) H')
def qY (F:Fun K "_law_fences" "_law_fences" jw f fd)(T:TxL mg)(De:Def P w K mg base 1 "_law_cell_at" p13 (spCellAt K))(Di:Def P w K mg base 1 "_law_mixed" p15 spMixed):FnOk P w K mg base CX0 2 f fd ["_law_script"] (spFences K):=by
 have sc:FnScope ng ["_law_script"] (ad jw):=mkS;refine F.oks sc λ{cdv A _ s _ _}H Q hr h=>?_;obtain⟨a,ns,rfl,hq,q⟩:=h;have hu:(A.deeper (PyProof.Rows.envOfC "_law_fences" (ad jw) s.heap.objs.size f cdv)).units+64 < cLine:=by
  have:=hr.un;omega
 refine ap (xbc (xst (i:=1) sc.nd (xcd Di hr (xac (xcd De hr (xac (xv 0) (xac xint xa0))) (xac xint xa0))))
  (xbc (xst (i:=2) sc.nd (xlst xa0))
  (xbc (xfor PassesOwn.never rfl (xir1 rfl T.q10 (xac (xop bq (xv 1) xint) xa0)) (xgm (i:=3) sc.nd)
  (xb1 (aZ (xmA (xv 2) (xac (xix ax (xlst (xac xstr (xac xstr (xac xstr (xac xstr (xac xstr (xac xstr (xac xstr (xac xstr xa0))))))))) (xop bq (xcd Di hr (xac (xv 1) (xac (xv 3) xa0))) xint) (λ_ _=>rfl)) xa0)))))
  (xbc (xst (i:=4) sc.nd (xlst xa0))
  (xbc (xst (i:=5) sc.nd xnon)
  (xbc (xst (i:=6) sc.nd (xlst xa0))
  (xbc (xfor PassesOwn.never rfl (xil (xop bM (xv 2) (xlst (xac xstr xa0)))) (xgm (i:=7) sc.nd)
  (xb1 (xif (xand (ay fg (xv 5) xnon (al _)) (gW (ay gV (xm plainAttrs_str slot_str_rstrip type_str_rstrip ga (xv 7) (xac xstr xa0)) xstr (al _)))).xt (xb1 (aZ (xmA (xv 5) (xac (xv 7) xa0)))) (xb1 (xif (ay fg (xv 5) xnon (al _)) (xbc (aZ (xmA (xv 4) (xac (xtup (xac xstr (xac (xv 5) xa0))) xa0)))
  (xb1 (xst (i:=5) sc.nd xnon))) (xb1 (xif (xand (ay gV (xm plainAttrs_str slot_str_rstrip type_str_rstrip ga (xv 7) (xac xstr xa0)) xstr (al _)) (gW (ay gV (xv 7) xstr (al _)))).xt (xb1 (aZ (xmA (xv 6) (xac (xm plainAttrs_str PySem.F.slot_str_strip PySem.F.type_str_strip mr (xv 7) (xac xstr xa0)) xa0)))) (xbc (xif (ay (ij hu) (xv 6) (xlst xa0) (al _)) (xb1 (aZ (xmA (xv 4) (xac (xtup (xac xstr (xac (xlst (xac (xtup (xac xstr (xac (xm plainAttrs_str slot_str_join type_str_join bz xstr (xac (xv 6) xa0)) xa0))) xa0)) xa0))) xa0)))) xb0)
  (xbc (xst (i:=6) sc.nd (xlst xa0))
  (xb1 (xif (ay gV (xv 7) xstr (al _)) (xb1 (xst (i:=5) sc.nd (xlst xa0))) xb0)))))))))))
  (xbc (xif (ay fg (xv 5) xnon (al _)) (xb1 (aZ (xmA (xv 4) (xac (xtup (xac xstr (xac (xsl iE (xv 5) xo0 (xo1 (xop bp (xcB aj T.u10 PySem.boot_len (xac (xv 5) xa0)) xint))) xa0))) xa0)))) xb0)
  (xb1 (xret (xtup (xac (xv 2) (xac (xv 4) xa0))))))))))))) ?_
 have hs:=sizeLine_eq;rw[show start ng [V.ref a]=[some (.ref a),none,none,none,none,none,none,none] from rfl];refine⟨_,rfl,a,ns,3,rfl,hq,λi0=>⟨i0,2,rfl,by omega,by omega,λm1 hm1=>?_⟩⟩
 left
 refine⟨bg0,λX hX=>?_⟩
 left
 have s1:=ac hX (.lst []);have e1:upd H X (.lst []) X=some (.lst []):=aa;generalize upd H X (.lst [])=H1 at s1 e1 ⊢;refine bm (λσ H'=>∃(x3:Option V) (rs:List (List Nat)),σ=[some (.ref a),some (.int m1),some (.ref X),x3,none,none,none,none]/\Same H H'/\H' X=some (.lst (rs.map vS))/\rs.length<=9/\∀r∈rs,r∈fcs) (λN hN=>?_) ?_
 ·refine⟨_,rfl,_,_,rfl,rfl,show (0:Int) < 10 by omega,?_⟩;obtain⟨n,hn⟩:∃n:Nat,m1 % 10=(n:Int):=⟨(m1 % 10).toNat,by omega⟩;refine⟨(n:Int),congrArg (λz=>[V.int z]) hn,by omega,by omega,?_⟩;rw[l36];refine bP (n:=n) (λi σ H'=>∃(x3:Option V) (rs:List (List Nat)),σ=[some (.ref a),some (.int m1),some (.ref X),x3,none,none,none,none]/\Same H H'/\H' X=some (.lst (rs.map vS))/\rs.length=i/\∀r∈rs,r∈fcs) ⟨none,[],rfl,s1,e1,rfl,λ_ z=>nomatch z⟩ ?_ ?_
  ·rintro i σ H2 hi ⟨x3,rs,rfl,s2,eX2,hrl,hrk⟩
   left
   rw[show (0:Int)+(i:Int)=(i:Int) by omega];refine⟨_,rfl, .inl ⟨rfl,_,SqL.of eX2⟩,bg8,λL hL=>⟨_,rfl,_,rfl,m1,(i:Int),rfl,by omega,by omega,λm3 hm3=>?_⟩⟩;obtain⟨t,ht,hat⟩:=na (xs:=fcs.map vS) fcs (i:=m3) rfl ∅;refine⟨_,_,rfl,rfl,show (0:Int) < 8 by omega,L,_,_,vS t,rfl,rfl,SqL.of aa,hat,?_⟩;have s3:=ac hL (.lst (fcs.map vS));refine⟨X,_,_,rfl,rfl,s3 _ _ eX2,by rw[l0,hs];omega,?_⟩;refine⟨_,rs++[t],rfl,af hX (s2.trans s3),by rw[aa,l15];rfl,by rw[l6,hrl];rfl,λx hx=>?_⟩;rcases l21.mp hx with z |z
   ·exact hrk x z
   ·rw[l14.mp z];exact ht
  ·rintro σ H2 ⟨x3,rs,rfl,s2,eX2,hrl,hrk⟩;exact hN _ _ ⟨x3,rs,rfl,s2,eX2,by omega,hrk⟩
 rintro σ H2 ⟨x3,rs,rfl,s2,eX2,hrl,hrk⟩;clear s1 e1;refine⟨bg0,λT0 hT0=>?_⟩
 left
 have e1:upd H2 T0 (.lst []) T0=some (.lst []):=aa;have s3:=ac hT0 (.lst []);generalize upd H2 T0 (.lst [])=H3 at e1 s3 ⊢;refine pK ?_
 left
 refine⟨bg0,λW0 hW0=>?_⟩
 left
 have hWT:W0≠T0:=(ak e1 hW0).symm;have eW4:upd H3 W0 (.lst []) W0=some (.lst []):=aa;have s4:=ac hW0 (.lst []);generalize upd H3 W0 (.lst [])=H4 at eW4 s4 ⊢;have nW2:=s3.free hW0;refine bm (λσ H'=>∃(wd:Addr) (ln:Option Addr) (x7:Option V) (ls ws:List (List Nat)) (tv:List V) (ds:List PyData),σ=[some (.ref a),some (.int m1),some (.ref X),x3,some (.ref T0),some (lnV ln),some (.ref wd),x7]/\FSt H2 H' T0 wd ln ls ws tv ds/\tv.length<=20/\FGo rs (rs.length+1) ln ls ws ds) (λN hN=>?_) ?_
 ·refine⟨_,rfl,bg1,λE1 hE1=>⟨X,E1,_,_,rfl,rfl,((s3.trans s4).trans (ac hE1 _)) _ _ eX2,aa,by rw[l0,hs];show _+1<=_;omega,λRL hRL=>⟨RL,rfl,⟨_,SqL.of aa⟩,?_⟩⟩⟩;have exs:rs.map vS++[V.str (Str.ofString "")]=(rs++[[]]).map vS:=by rw[l15];rfl
  rw[exs];have s5:=(ac hE1 (.lst [V.str (Str.ofString "")])).trans (ac hRL (.lst ((rs++[[]]).map vS)));have eRL:upd (upd H4 E1 (.lst [V.str (Str.ofString "")])) RL (.lst ((rs++[[]]).map vS)) RL=some (.lst ((rs++[[]]).map vS)):=aa;have nRL4:=(ac hE1 _).free hRL;generalize upd (upd H4 E1 (.lst [V.str (Str.ofString "")])) RL (.lst ((rs++[[]]).map vS))=H5 at s5 eRL ⊢;have hTR:T0≠RL:=ak (s4 _ _ e1) nRL4;have hWR:W0≠RL:=ak eW4 nRL4;have nRL2:=(s3.trans s4).free nRL4;obtain⟨Hb,hHb⟩:∃Hb,Hb=upd H2 RL (.lst ((rs++[[]]).map vS)):=⟨_,rfl⟩;have eRb:Hb RL=some (.lst ((rs++[[]]).map vS)):=by rw[hHb];exact aa
  have s2b:Same H2 Hb:=by rw[hHb];exact ac nRL2 _
  have f5:FSt Hb H5 T0 W0 none [] [] [] []:=by
   refine⟨λy o e=>?_,by rw[hHb,ag hTR];exact hT0,by rw[hHb,ag hWR];exact nW2,(λb e=>nomatch e),hWT,s5 _ _ (s4 _ _ e1),s5 _ _ eW4, .nil⟩;by_cases z:y=RL
   ·rw[z] at e ⊢;rw[eRb] at e;rw[<- e];exact eRL
   ·rw[hHb,ag z] at e;exact s5 _ _ ((s3.trans s4) _ _ e)
  clear hHb eRL s5 eW4 e1;refine cw (xs:=(rs++[[]]).map vS) (λi σ H'=>∃(wd:Addr) (ln:Option Addr) (x7:Option V) (ls ws:List (List Nat)) (tv:List V) (ds:List PyData),σ=[some (.ref a),some (.int m1),some (.ref X),x3,some (.ref T0),some (lnV ln),some (.ref wd),x7]/\FSt Hb H' T0 wd ln ls ws tv ds/\tv.length<=i/\FGo rs i ln ls ws ds) ⟨W0,none,none,[],[],[],[],rfl,f5,l5 _, .go (l10 _) rfl (λz=>absurd rfl z) (λ_ z=>nomatch z) (λ_ z=>nomatch z) (l5 _) (l5 _)⟩ ?_ ?_ ?_
  ·rintro i σ H6 _ ⟨_,_,_,_,_,_,_,_,f6,_⟩;exact SqL.of (f6.sm _ _ eRb)
  ·rintro i v σ H6 hv ⟨wd,ln,x7,ls,ws,tv,ds,rfl,f6,htv,hgo⟩;rw[List.getElem?_map] at hv;obtain⟨r,hr,rfl⟩:=l44.mp hv;have hil:i < rs.length+1:=by have:=(List.getElem?_eq_some_iff.mp hr).1;rw[l6] at this;exact this
   obtain⟨hi,hds,hws,hwk,hlk,hll,hwl⟩:i<=rs.length/\ds++ff (ln.map λ_=>ls) ws (rs.drop i)=dBs rs/\(ln≠none->ws=[])/\(∀w∈ws,w∈fws)/\(∀l∈ls,l∈fcs)/\ls.length<=i/\ws.length<=i:=by
    cases hgo with
    |go a b c d e f g=>exact⟨a,b,c,d,e,f,g⟩
    |shut a=>omega
    |left _ a=>omega
   clear hgo;have hrc:r∈fcs/\(rs.drop i=r::rs.drop (i+1)/\i < rs.length ∨ r=[]/\rs.drop i=[]/\i=rs.length):=by
    by_cases c:i < rs.length
    ·rw[List.getElem?_append_left c] at hr;exact⟨hrk r (l16 hr), .inl ⟨by rw[l28 c,<- Option.some.inj ((List.getElem?_eq_getElem c).symm.trans hr)],c⟩⟩
    ·have e:i=rs.length:=by omega
     rw[e,List.getElem?_append_right (l5 _),l59] at hr;cases hr;exact⟨by decide, .inr ⟨rfl,by rw[e,l45],e⟩⟩
   obtain⟨hrf,hrd⟩:=hrc;have hrl4:=(lW r hrf).1
   left
   have tR:∀{σ:St} {H':Hp},σ[7]? = some (some (vS r))->Tells (tTest (tOp rNe (tBM K "str" (rS2 λz y=>V.str (Txt.rstripChars z y)) (tVar 7) (tCons (tC (.str " ")) tNil)) (tC (.str "~~~")))) σ H' (decide (aR r≠[126,126,126])):=λhσ=>t_ne (aR r) [126,126,126] rfl λR k=>⟨_,hσ,rfl,_,_,rfl,rfl,bigS nofun,by rw[show Txt.rstripChars (S r) (Str.ofString " ")=S (aR r) from mw r [32]];exact k⟩;cases ln with
   |some b=>
    have tN:∀{H':Hp},Tells (tTest (tOp R_op_notN (tVar 5) (tC .non))) [some (.ref a),some (.int m1),some (.ref X),x3,some (.ref T0),some (lnV (some b)),some (.ref wd),some (vS r)] H' true:=λR k=>⟨_,rfl,rfl,_,rfl,k _ (Same.refl _)⟩;have hw0:=hws (λz=>nomatch z);subst hw0;refine s_if (true&&decide (aR r≠[126,126,126])) (dk _ _ tN λ_ _ _=>tR rfl) (λH7 s7 z=>?_) λH7 s7 z=>?_
    ·have hnf:aR r≠[126,126,126]:=of_decide_eq_true z;have f7:=f6.same s7;obtain⟨_,_,_,eb7⟩:=f7.hl b rfl;refine⟨_,rfl, .inl ⟨rfl,_,SqL.of eb7⟩,_,rfl,b,_,_,rfl,rfl,eb7,by rw[l0,hs];omega,?_⟩;have f8:=f7.line r;rw[l15] at f8;refine⟨wd,some b,_,ls++[r],[],tv,ds,rfl,f8,by omega,?_⟩;rcases hrd with ⟨hd,hlt⟩ |⟨hr0,hd,hie⟩
     ·refine .go nofun ?_ (λ_=>rfl) hwk (λl hl=>?_) (by rw[l6];show _+1<=_;omega) (l10 _)
      ·rw[hd] at hds;rw[<- hds];have hk:bJ (aL r)≠cq:=by
        cases sX hrf with
        |fence c=>exact absurd c hnf
        |empty _ c=>rw[c];decide
        |word w f _ _ c=>rw[c];exact λz=>nomatch z
       exact congrArg (ds ++ ·) (n8 hk).symm
      ·rcases l21.mp hl with y |y
       ·exact hlk l y
       ·rw[l14.mp y];exact hrf
     ·refine .left ls nofun (λz=>nomatch z) (by rw[hr0]) nofun hlk ?_;rw[hd] at hds;rw[<- hds];exact congrArg (ds ++ ·) contF_endL.symm
    ·have hyf:aR r=[126,126,126]:=by simpa using z
     have f7:=f6.same s7;refine s_if true tN (λH8 s8 _=>?_) λ_ _ z=>Bool.noConfusion z;have f8:=f7.same s8;obtain⟨b1,b2,b3,eb8⟩:=f8.hl b rfl;refine⟨_,rfl, .inl ⟨rfl,_,SqL.of f8.eT⟩,_,rfl,bg2,λt ht=>⟨T0,_,_,rfl,rfl,ac ht _ _ _ f8.eT,by rw[hs];omega,?_⟩⟩;have s9:=ac ht (.tup [V.str "literal", .ref b]);have f9:=(f8.same s9).shut;have f10 := f9.put (t := t) (d := dLit ls) (ft ((Offs.nil.snoc (cZ fun G => dn_k (k := "literal"))).snoc (gR (qU (nP fun l hl => ⟨fun c hc => ((lW l (hlk l hl)).2 c hc).1, by have := (lW l (hlk l hl)).1; omega⟩)) (s9 _ _ eb8) (λy=>by
      rcases y with y |y |y
      ·exact b2 y
      ·exact b3 y
      ·cases y) (by rw [l0]; omega))) aa (λy=>by
      rcases y with y |y |y
      ·exact(ak f8.eT ht) y.symm
      ·exact(ak f8.eW ht) y.symm
      ·cases y))
     refine⟨wd,none,_,[],[],_,_,rfl,f10,by rw[l6];show _+1<=_;omega,?_⟩;rcases hrd with ⟨hd,hlt⟩ |⟨hr0,hd,hie⟩
     ·refine .go nofun ?_ (λz=>absurd rfl z) hwk (λl hl=>nomatch hl) (l10 _) (l10 _);rw[hd] at hds;rw[<- hds,l18];have hk:aL r = .fence:=by
       cases sX hrf with
       |fence _ c=>exact c
       |empty c=>exact absurd hyf c
       |word w f c=>exact absurd hyf c
      exact congrArg (ds ++ ·) (lS (ls:=ls) (ws:=[]) hk).symm
     ·rw[hr0] at hyf;exact absurd hyf ∅
   |none=>
    have tN:∀{H':Hp},Tells (tTest (tOp R_op_notN (tVar 5) (tC .non))) [some (.ref a),some (.int m1),some (.ref X),x3,some (.ref T0),some (lnV none),some (.ref wd),some (vS r)] H' false:=λR k=>⟨_,rfl,rfl,_,rfl,k _ (Same.refl _)⟩;refine s_if (false&&decide (aR r≠[126,126,126])) (dk _ _ tN λ_ _ _=>tR rfl) (λ_ _ z=>Bool.noConfusion z) λH7 s7 _=>?_;have f7:=f6.same s7;refine s_if false tN (λ_ _ z=>Bool.noConfusion z) λH8 s8 _=>?_;have f8:=f7.same s8;refine s_if (decide (aR r≠[126,126,126])&&decide (r≠[])) (dk _ _ (tR rfl) λ_ _ _=>t_ne r [] rfl λR k=>⟨_,rfl,k⟩) (λH9 s9 z=>?_) λH9 s9 z=>?_
    ·rw[Bool.and_eq_true] at z;have z1:aR r≠[126,126,126]:=of_decide_eq_true z.1;have z2:r≠[]:=of_decide_eq_true z.2;have f9:=f8.same s9;obtain⟨w,fr,hk,hw,hwm⟩:∃w fr,aL r = .plain fr w/\Txt.stripChars (S r) (S [32])=S w/\w∈fws:=by
      cases sX hrf with
      |fence c=>exact absurd c z1
      |empty _ c=>exact absurd c z2
      |word w f _ _ a b c=>exact⟨w,f,a,b,c⟩
     refine⟨_,rfl, .inl ⟨rfl,_,SqL.of f9.eW⟩,_,rfl,rfl,_,_,rfl,rfl,bigS nofun,?_⟩;rw[show Txt.stripChars (S r) (Str.ofString " ")=S w from hw];refine⟨wd,_,_,rfl,rfl,f9.eW,by rw[l0,hs];omega,?_⟩;have f10:=f9.word w;rw[l15] at f10;refine⟨wd,none,_,ls,ws++[w],tv,ds,rfl,f10,by omega,?_⟩;rcases hrd with ⟨hd,hlt⟩ |⟨hr0,hd,hie⟩
     ·refine .go nofun ?_ (λz=>absurd rfl z) (λx hx=>?_) hlk nofun (by rw[l6];show _+1<=_;omega)
      ·rw[hd] at hds;rw[<- hds];exact congrArg (ds ++ ·) (n9 hk).symm
      ·rcases l21.mp hx with y |y
       ·exact hwk x y
       ·rw[l14.mp y];exact hwm
     ·exact absurd hr0 z2
    ·have f9:=f8.same s9;refine bm (λσ H'=>∃tv',σ=[some (.ref a),some (.int m1),some (.ref X),x3,some (.ref T0),some (lnV none),some (.ref wd),some (vS r)]/\FSt Hb H' T0 wd none ls ws tv' (ds++m6 ws)/\tv'.length<=i+1) (λN hN=>?_) ?_
     ·refine s_if (!(ws.map vS).isEmpty) (λR k=>⟨_,rfl,bg0,λz0 hz0=>⟨wd,z0,_,rfl,rfl,SqL.of (ac hz0 _ _ _ f9.eW),SqL.of aa,_,rfl,k _ (ac hz0 _)⟩⟩) (λH10 s10 y=>?_) λH10 s10 y=>?_
      ·have f10:=f9.same s10;cases ws with
       |nil=>cases y
       |cons w0 ws0=>
       obtain⟨pa1,pa2⟩:=vK hwk;have hgl:=kJ (m:=4) (ws:=w0::ws0) λx hx=>(oi x (hwk x hx)).1;have hgl2:(ao [32] (w0::ws0)).length<=1000:=by
        have:(w0::ws0).length * (4+1)<=9 * 5:=Nat.mul_le_mul_right 5 (l11 hwl nofun);omega
       refine⟨_,rfl, .inl ⟨rfl,_,SqL.of f10.eT⟩,rfl,_,rfl,S [32],wd,(w0::ws0).map S,rfl,rfl,SqL.of (by rw[f10.eW,ck]),?_,?_⟩
       ·refine SmR.fit ⟨?_,λx hx=>(oi x (hwk x hx)).2.2.2⟩;have:∀(l:List (List Nat)),(∀x∈l,x∈fws)->(l.map λr=>r.length+1).sum<=5 * l.length:=by
         intro l
         induction l with
         |nil=>intro _;exact l5 _
         |cons x l ih=>
          intro h;have h1:=ih λy hy=>h y (l7 _ hy);have h2:=(oi x (h x l8)).1;rw[l12,l24,l4];omega
        have:=this _ hwk;omega
       rw[bD];refine⟨bg2,λp1 hp1=>⟨bg1,λp2 hp2=>⟨bg2,λt ht=>?_⟩⟩⟩;have t1:=ac hp1 (.tup [V.str "plain",vS (ao [32] (w0::ws0))]);have t2:=ac hp2 (.lst [V.ref p1]);have t3:=ac ht (.tup [V.str "para", .ref p2]);have f11:=f10.same ((t1.trans t2).trans t3);have out:∀{y:Addr} {G:Hp},Same H10 G->G y=none->¬ offW T0 wd none y:=λsG n z=>by
        rcases z with z |z |z
        ·exact(ak (sG _ _ f10.eT) n) z.symm
        ·exact(ak (sG _ _ f10.eW) n) z.symm
        ·cases z
       refine⟨T0,_,_,rfl,rfl,f11.eT,by rw[hs];omega,?_⟩;refine hN _ _ ⟨tv++[.ref t],rfl,?_,by rw[l6];show _+1<=_;omega⟩;refine f11.put ?_;refine ft ((Offs.nil.snoc (cZ λG=>dn_k (k:="para"))).snoc ?_) aa (out (t1.trans t2) ht);rw[pa1];exact gR (Offs.nil.snoc (ft ((Offs.nil.snoc (cZ λG=>dn_k (k:="plain"))).snoc (cZ λG=>dn_S ⟨pa2,hgl2⟩)) ((t2.trans t3) _ _ aa) (out (Same.refl _) hp1))) (t3 _ _ aa) (out t1 hp2) (by show 1<=_;decide)
      ·have f10:=f9.same s10;cases ws with
       |nil=>exact hN _ _ ⟨tv,rfl,by show FSt _ _ _ _ _ _ _ _ (ds++[]);rw[l17];exact f10,by omega⟩
       |cons w0 ws0=>cases y
     rintro σ H10 ⟨tv',rfl,f10,htv'⟩;refine⟨bg0,λw' hw'=>?_⟩
     left
     have f11:=f10.anew hw';refine s_if (decide (r≠[])) (t_ne r [] rfl λR k=>⟨_,rfl,k⟩) (λH12 s12 y=>?_) λH12 s12 y=>?_
     ·have y:r≠[]:=of_decide_eq_true y;have hyf:aR r=[126,126,126]:=by
       rw[Bool.and_eq_false_iff] at z;rcases z with z |z
       ·simpa using z
       ·exact absurd (by simpa using z) y
      have hk:aL r = .fence:=by
       cases sX hrf with
       |fence _ c=>exact c
       |empty c=>exact absurd hyf c
       |word w f c=>exact absurd hyf c
      refine⟨bg0,λb hb=>?_⟩;have f13:=(f11.same s12).opens hb;refine⟨w',some b,_,[],[],tv',_,rfl,f13,htv',?_⟩;rcases hrd with ⟨hd,hlt⟩ |⟨hr0,hd,hie⟩
      ·refine .go nofun ?_ (λ_=>rfl) (λ_ z=>nomatch z) (λ_ z=>nomatch z) (l10 _) (l10 _);rw[hd] at hds;rw[<- hds,l18];exact congrArg (ds ++ ·) (oa hk).symm
      ·exact absurd hr0 y
     ·have y:r=[]:=by simpa using y
      refine⟨w',none,_,[],[],tv',_,rfl,f11.same s12,htv',?_⟩;rcases hrd with ⟨hd,hlt⟩ |⟨hr0,hd,hie⟩
      ·refine .go nofun ?_ (λz=>absurd rfl z) (λ_ z=>nomatch z) (λ_ z=>nomatch z) (l10 _) (l10 _);rw[hd] at hds;rw[<- hds,l18];exact congrArg (ds ++ ·) (qH (by rw[y];rfl)).symm
      ·refine .shut nofun rfl ?_;rw[hd] at hds;rw[<- hds];exact congrArg (ds ++ ·) contF_end.symm
  ·rintro σ H6 ⟨wd,ln,x7,ls,ws,tv,ds,rfl,f6,htv,hgo⟩;rw[l0,l6] at htv hgo;exact hN _ _ ⟨wd,ln,x7,ls,ws,tv,ds,rfl,f6.base s2b,by have:tv.length<=rs.length+1:=htv;omega,hgo⟩
 rintro σ H6 ⟨wd,ln,x7,ls,ws,tv,ds,rfl,f6,htv,hgo⟩;refine bm (λσ H'=>∃(x5 x6 x7:Option V) (tv:List V),σ=[some (.ref a),some (.int m1),some (.ref X),x3,some (.ref T0),x5,x6,x7]/\Same H2 H'/\Dn H' (.ref T0) (.list (dBs rs))) (λN hN=>?_) ?_
 ·have hgo:(ln=none/\ds=dBs rs) ∨ ∃ls0,ln≠none/\ls=ls0++[[]]/\ls0.length<=rs.length+1/\(∀l∈ls0,l∈fcs)/\ds++[dLit ls0]=dBs rs:=by
   cases hgo with
   |go a=>omega
   |shut _ a b=>exact .inl ⟨a,b⟩
   |left l _ a b c d e=>exact .inr ⟨l,a,b,c,d,e⟩
  cases ln with
  |none=>
   refine s_if false (λR k=>⟨_,rfl,rfl,_,rfl,k _ (Same.refl _)⟩) (λ_ _ z=>Bool.noConfusion z) λH7 s7 _=>?_;have f7:=f6.same s7;rcases hgo with ⟨_,hd⟩ |⟨_,z,_⟩
   ·refine hN _ _ ⟨_,_,_,tv,rfl,f7.sm,?_⟩;rw[<- hd];exact .lst f7.eT f7.of.dn nofun
   ·exact absurd rfl z
  |some b=>
   refine s_if true (λR k=>⟨_,rfl,rfl,_,rfl,k _ (Same.refl _)⟩) (λH7 s7 _=>?_) λ_ _ z=>Bool.noConfusion z;have f7:=f6.same s7;rcases hgo with ⟨z,_⟩ |⟨ls0,_,hls,hl0,hl1,hd⟩
   ·cases z
   ·obtain⟨_,_,_,eb⟩:=f7.hl b rfl;rw[hls] at eb;refine⟨_,rfl, .inl ⟨rfl,_,SqL.of f7.eT⟩,_,rfl,_,rfl,b,_,rfl, .inl (SqL.of eb),_,_,rfl,rfl,_,rfl,b,_,rfl,SqL.of eb,λL hL=>?_⟩;have ecut:cutV ((ls0++[[]]).map vS) none (some ((((ls0++[[]]).map vS).length:Int) - 1))=ls0.map vS:=by
     have e:(((((ls0++[[]]).map vS).length:Nat):Int) - 1)=((ls0.length:Nat):Int):=by
      rw[l0,l6];show ((ls0.length+1:Nat):Int) - 1=_;omega
     exact(congrArg (λz=>cutV ((ls0++[[]]).map vS) none (some z)) e).trans (by rw[qd,l15,l64 (by rw[l0];exact l5 _),l39 (by rw[l0];exact l5 _)])
    rw[ecut];refine⟨bg2,λt ht=>?_⟩;have t1:=ac hL (.lst (ls0.map vS));have t2:=ac ht (.tup [V.str "literal", .ref L]);have f8:=f7.same (t1.trans t2);refine⟨T0,_,_,rfl,rfl,f8.eT,by rw[hs];omega,?_⟩;refine hN _ _ ⟨_,_,_,tv,rfl,af f8.nT f8.sm,?_⟩;have out:∀{y:Addr} {G:Hp},Same H7 G->G y=none->¬ offW T0 wd (some b) y:=λsG n z=>by
     rcases z with z |z |z
     ·exact(ak (sG _ _ f7.eT) n) z.symm
     ·exact(ak (sG _ _ f7.eW) n) z.symm
     ·cases z;rw[sG _ _ eb] at n;cases n
    have f9:=f8.put (t:=t) (d:=dLit ls0) (ft ((Offs.nil.snoc (cZ λG=>dn_k (k:="literal"))).snoc (gR (qU (nP λl hl=>⟨λc hc=>((lW l (hl1 l hl)).2 c hc).1,by have:=(lW l (hl1 l hl)).1;omega⟩)) (t2 _ _ aa) (out (Same.refl _) hL) (by rw[l0];omega))) aa (out t1 ht));rw[<- hd];exact .lst f9.eT f9.of.dn (by rw[l6];show _+1<=_;omega)
 rintro σ H7 ⟨x5,x6,x7,_,rfl,s7,d7⟩;refine⟨_,rfl,_,rfl,bg2,λu hu'=>?_⟩;have s8:=ac hu' (.tup [V.ref X, .ref T0]);refine q u X (.ref T0) rs _ (s2.trans (s7.trans s8)) aa ((s7.trans s8) _ _ eX2) (d7.same s8) ⟨?_,λr hr=>(lW r (hrk r hr)).2⟩;have:∀(l:List (List Nat)),(∀x∈l,x∈fcs)->(l.map λr=>r.length+1).sum<=5 * l.length:=by
  intro l
  induction l with
  |nil=>intro _;exact l5 _
  |cons x l ih=>
   intro h;have h1:=ih λy hy=>h y (l7 _ hy);have h2:=(lW x (h x l8)).1;rw[l12,l24,l4];omega
 have:=this rs hrk;omega
end
def qp:Nat->List Nat
 |0=>[]
 |d+1=>62::32::qp d
def qw:Nat->PyData->PyData
 |0,d=>d
 |i+1,d => .list [.tuple [.str "quote",qw i d]]
def oj:Nat->PyData->PyData
 |0,p=>p
 |i+1,p => .tuple [.str "quote", .list [oj i p]]
theorem qZ (p:PyData):∀i:Nat,qw i (.list [p]) = .list [oj i p]
 |0=>rfl
 |i+1=>by
  show PyData.list [.tuple [.str "quote",qw i (.list [p])]]=_;rw[qZ p i];rfl
def nh {rs:List (List Nat)}(n:Nat)(hr:rs≠[]):∀d:Nat,PyData.list (dAll (n+d) (rs.map λr=>qp d++r))=qw d (.list (dAll n rs))
 |0=>by
  show PyData.list (dAll n (rs.map λr=>r))=_;rw[List.map_id'];rfl
 |d+1=>by
  have e:(rs.map λr=>qp (d+1)++r)=(rs.map λr=>qp d++r).map λr=>62::32::r:=by rw[l19];rfl
  rw[e,<- Nat.add_assoc,yu (n+d) (by simpa using hr),nh n hr d];rfl
def q0 {rs:List (List Nat)}(h:rs≠[]):RdX (rs.map λr=>62::32::r) (.quote ((blks 3 rs).map (·.1)):BkF (Bl 3)):=by
 have ht:∀rs:List (List Nat),Tk fJ true (rs.map λr=>62::32::r) rs:=by
  intro rs
  induction rs with
  |nil=>trivial
  |cons r rs ih=>exact⟨by rw[aW,iu];rfl,ih⟩
 cases rs with
 |nil=>exact absurd rfl h
 |cons r rs=>
  refine⟨⟨62::32::r,_,rfl,fc (by rw[iu];intro z;cases z)⟩,λX hX=>?_⟩;have hk:=Tk.take (X:=X) (by rw[hX];rfl) (ht (r::rs));rw[rd4];unfold rdF;have:aY true ((r::rs).map (λr=>62::32::r)++X) = .quote r:=by
   show srtQ true (62::32::r)=_;rw[aW,iu]
  rw[this,hk];show (_,(r::rs).length)=_;rw[l0];rfl
def lX (m:Nat):List (List Nat):=[qp (m - min 4 m)++[113],[112],qp (m - min 4 m)++[114]]
def cS (m:Nat):List Nat:=qp (m - min 4 m)++[113,32,112,32]++qp (m - min 4 m)++[114]
def gS (m:Nat):List (List Nat):=[qp m++[113],qp (min 4 m)++[112],qp m++[114]]
def dQ (m:Nat):PyData:=oj (min 4 m) (.tuple [.str "para", .list [.tuple [.str "plain", .str (S (cS m))]]])
def six {m:Nat}(h1:1<=m)(h6:m<=6):m=1 ∨ m=2 ∨ m=3 ∨ m=4 ∨ m=5 ∨ m=6:=by omega
def xz {m:Nat}(h1:1<=m)(h6:m<=6):dAll (4 - min 4 m) (lX m)=[fe (cS m)]:=by
 rcases six h1 h6 with rfl |rfl |rfl |rfl |rfl |rfl <;> rfl
def xD {m:Nat}(h1:1<=m)(h6:m<=6):gS m=((lX m).map λr=>qp (min 4 m - 1)++r).map λr=>62::32::r:=by
 rcases six h1 h6 with rfl |rfl |rfl |rfl |rfl |rfl <;> rfl
def ud {m:Nat}(h1:1<=m)(h6:m<=6):NoMk (cS m)/\cS m≠[]/\Asc (cS m)/\(cS m).length<=100:=by
 have:((List.range 7).all λm=>(cS m).all (λc=>decide (c < 128/\c≠92/\c≠42/\c≠96/\c≠91))&&decide (cS m≠[])&&decide ((cS m).length<=100))=true:=by decide
 have:=l22.mp this m (l33.mpr nofun);simp only[Bool.and_eq_true,decide_eq_true_iff] at this;have h2:∀c∈cS m,c < 128/\c≠92/\c≠42/\c≠96/\c≠91:=λc hc=>of_decide_eq_true (l22.mp this.1.1 c hc);exact⟨λc hc=>(h2 c hc).2,this.1.2,λc hc=>(h2 c hc).1,this.2⟩
def q_sz {m:Nat}(h1:1<=m)(h6:m<=6):RwS 45 (gS m):=by
 have:((List.range 7).all λm=>decide (((gS m).map λr=>r.length+1).sum<=45)&&(gS m).all λr=>r.all λc=>decide (c < 128/\c≠10/\c≠9))=true:=by decide
 have:=l22.mp this m (l33.mpr nofun);rw[Bool.and_eq_true] at this;exact⟨of_decide_eq_true this.1,λr hr c hc=>of_decide_eq_true (l22.mp (l22.mp this.2 r hr) c hc)⟩
def xE {m:Nat}(h1:1<=m)(h6:m<=6):∃b:Bl 4,RdX (gS m) b/\dB 4 b=dQ m:=by
 have hb:(lX m).map (λr=>qp (min 4 m - 1)++r)≠[]:=by unfold lX;simp
 refine⟨(.quote ((blks 3 ((lX m).map λr=>qp (min 4 m - 1)++r)).map (·.1)):BkF (Bl 3)),by rw[xD h1 h6];exact q0 hb,?_⟩;have hw:=nh (rs:=lX m) (4 - min 4 m) (by unfold lX;simp) (min 4 m - 1);rw[show 4 - min 4 m+(min 4 m - 1)=3 by omega,xz h1 h6,qZ] at hw;obtain⟨k1,k2,_⟩:=ud h1 h6;have hp:fe (cS m) = .tuple [.str "para", .list [.tuple [.str "plain", .str (S (cS m))]]]:=by
  unfold fe;rw[cO k1 k2];rfl
 rw[hp] at hw;unfold dQ;obtain⟨d,hd⟩:∃d,min 4 m=d+1:=⟨min 4 m - 1,by omega⟩;rw[hd,l71] at hw ⊢;show PyData.tuple [.str "quote", .list (((blks 3 _).map (·.1)).map (dB 3))] = .tuple [.str "quote", .list [oj d _]];rw[l19,<- hw];rfl
def mulq {d:Nat}(h:d<=6):Txt.mul "> " (d:Int)=S (qp d):=by
 have:d=0 ∨ d=1 ∨ d=2 ∨ d=3 ∨ d=4 ∨ d=5 ∨ d=6:=by omega
 rcases this with rfl |rfl |rfl |rfl |rfl |rfl |rfl <;> rfl
theorem ni:∀d:Nat,(qp d).length=2 * d
 |0=>rfl
 |d+1=>by show (qp d).length+1+1=_;rw[ni d];omega
section
abbrev lY:Stmt:=top 105
abbrev nj:List Str:=["_law_cell","_law_many","_law_more","_law_rows","_law_told","_law_turn"]
inductive spQuoted (vs:List V)(H:Hp)(Q:VK)(u3:XK):Prop
 |mk (i:Int)(_:vs=[.int i])(_:∀t H',GotB 45 H H' t->Q (.ref t) H')
def q8 (F:Fun K "_law_quoted" "_law_quoted" lY f fd)(T:TxL mg):FnOk P w K mg base CX0 1 f fd ["_law_cell"] spQuoted:=by
 have sc:FnScope nj ["_law_cell"] (ad lY):=mkS;refine F.oks sc λH Q hr h=>?_;obtain⟨i,rfl,q⟩:=h;refine ap (xbc (xst (i:=1) sc.nd (xop au xint (xop bq (xv 0) xint)))
  (xbc (xst (i:=2) sc.nd (xop iJ xstr (xop bp (xv 1) (xcB (fW rfl) T.u11 rfl (xac xint (xac (xv 1) xa0))))))
  (xbc (xst (i:=3) sc.nd (xlst (xac (xop aJ (xop iJ xstr (xv 1)) xstr) (xac (xop aJ (xop iJ xstr (xcB (fW rfl) T.u11 rfl (xac xint (xac (xv 1) xa0)))) xstr) (xac (xop aJ (xop iJ xstr (xv 1)) xstr) xa0)))))
  (xbc (xst (i:=4) sc.nd (xtup (xac xstr (xac (xlst (xac (xtup (xac xstr (xac (xop aJ (xop aJ (xop aJ (xv 2) xstr) (xv 2)) xstr) xa0))) xa0)) xa0))))
  (xbc (xfor PassesOwn.never rfl (xir1 rfl T.q10 (xac (xcB (fW rfl) T.u11 rfl (xac xint (xac (xv 1) xa0))) xa0)) (xgm (i:=5) sc.nd)
  (xb1 (xst (i:=4) sc.nd (xtup (xac xstr (xac (xlst (xac (xv 4) xa0)) xa0))))))
  (xb1 (xret (xtup (xac (xv 3) (xac (xv 4) xa0)))))))))) ?_
 have hs:=sizeLine_eq;rw[show start nj [V.int i]=[some (.int i),none,none,none,none,none] from rfl];refine⟨_,rfl,_,_,rfl,rfl,show (0:Int) < 6 by omega,_,_,rfl,rfl,?_⟩
 left
 obtain⟨m,hm,h1,h6⟩:∃m:Nat,1+i % 6=(m:Int)/\1<=m/\m<=6:=⟨(1+i % 6).toNat,by omega,by omega,by omega⟩;rw[hm];have hmin:(if (m:Int) < 4 then (m:Int) else 4)=((min 4 m:Nat):Int):=by split <;> omega
 refine⟨_,rfl,_,rfl,_,_,rfl,?_⟩;rw[hmin];refine⟨_,_,rfl,rfl,_,_,rfl,rfl,by decide,by omega,by omega,?_⟩
 left
 rw[show (m:Int) - ((min 4 m:Nat):Int)=((m - min 4 m:Nat):Int) by omega,mulq (show m - min 4 m<=6 by omega)];have l1:=ni m;have l2:=ni (min 4 m);have l3:=ni (m - min 4 m);refine⟨_,rfl,_,_,rfl,rfl,by decide,by omega,by omega,?_⟩;rw[mulq h6];refine⟨_,_,rfl,rfl,by rw[aA,hs];show _+1<=_;omega,?_⟩;rw[show (S (qp m)++Str.ofString "q")=S (qp m++[113]) from dN _ _];refine⟨_,rfl,_,_,rfl,?_⟩;rw[hmin];refine⟨_,_,rfl,rfl,by decide,by omega,by omega,?_⟩;rw[mulq (show min 4 m<=6 by omega)];refine⟨_,_,rfl,rfl,by rw[aA,hs];show _+1<=_;omega,?_⟩;rw[show (S (qp (min 4 m))++Str.ofString "p")=S (qp (min 4 m)++[112]) from dN _ _];refine⟨_,rfl,_,_,rfl,rfl,by decide,by omega,by omega,?_⟩;rw[mulq h6];refine⟨_,_,rfl,rfl,by rw[aA,hs];show _+1<=_;omega,?_⟩;rw[show (S (qp m)++Str.ofString "r")=S (qp m++[114]) from dN _ _];refine⟨bg3,λR hR=>?_⟩
 left
 have s1:=ac hR (.lst ((gS m).map vS));have e1:upd H R (.lst ((gS m).map vS)) R=some (.lst ((gS m).map vS)):=aa;rw[show upd H R (.lst [V.str (S (qp m++[113])),V.str (S (qp (min 4 m)++[112])),V.str (S (qp m++[114]))])=upd H R (.lst ((gS m).map vS)) from rfl];generalize upd H R (.lst ((gS m).map vS))=H1 at s1 e1 ⊢;refine⟨_,rfl,_,_,rfl,rfl,by rw[aA,hs];show _+4<=_;omega,?_⟩;rw[show (S (qp (m - min 4 m))++Str.ofString "q p ")=S (qp (m - min 4 m)++[113,32,112,32]) from dN _ _];refine⟨_,rfl,_,_,rfl,rfl,by rw[aA,aA,l6,hs];show _+4+_<=_;omega,?_⟩;rw[dN];refine⟨_,_,rfl,rfl,by rw[aA,l6,l6,hs];show _+4+_+1<=_;omega,?_⟩;rw[show (S (qp (m - min 4 m)++[113,32,112,32]++qp (m - min 4 m))++Str.ofString "r")=S (cS m) from dN _ _];refine⟨bg2,λp1 hp1=>⟨bg1,λp2 hp2=>⟨bg2,λp3 hp3=>?_⟩⟩⟩
 left
 obtain⟨_,_,k3,k4⟩:=ud h1 h6;have t1:=ac hp1 (.tup [V.str "plain",vS (cS m)]);have t2:=ac hp2 (.lst [V.ref p1]);have t3:=ac hp3 (.tup [V.str "para", .ref p2]);have t13:=(t1.trans t2).trans t3;have dp:Dn (upd (upd (upd H1 p1 (.tup [V.str "plain",vS (cS m)])) p2 (.lst [V.ref p1])) p3 (.tup [V.str "para", .ref p2])) (.ref p3) (oj 0 (.tuple [.str "para", .list [.tuple [.str "plain", .str (S (cS m))]]])) := .tup aa (.cons (dn_k (k:="para")) (.cons (.lst (t3 _ _ aa) (.cons (.tup ((t2.trans t3) _ _ aa) (.cons (dn_k (k:="plain")) (.cons (dn_S ⟨k3,by omega⟩) .nil))) .nil) (by show 1<=_;decide)) .nil));generalize upd (upd (upd H1 p1 (.tup [V.str "plain",vS (cS m)])) p2 (.lst [V.ref p1])) p3 (.tup [V.str "para", .ref p2])=H2 at t13 dp ⊢;refine bm (λσ H'=>∃(x5:Option V) (v:V),σ=[some (.int i),some (.int (m:Int)),some (vS (qp (m - min 4 m))),some (.ref R),some v,x5]/\Same H1 H'/\Dn H' v (dQ m)) (λN hN=>?_) ?_
 ·refine⟨_,rfl,_,_,rfl,?_⟩;rw[hmin];refine⟨((min 4 m:Nat):Int),rfl,by omega,by omega,?_⟩;rw[l36];refine bP (n:=min 4 m) (λj σ H'=>∃(x5:Option V) (v:V),σ=[some (.int i),some (.int (m:Int)),some (vS (qp (m - min 4 m))),some (.ref R),some v,x5]/\Same H1 H'/\Dn H' v (oj j (.tuple [.str "para", .list [.tuple [.str "plain", .str (S (cS m))]]]))) ⟨none,_,rfl,t13,dp⟩ ?_ ?_
  ·rintro j σ H3 hj ⟨x5,v,rfl,s3,d3⟩
   left
   refine⟨_,rfl,bg1,λL hL=>⟨bg2,λu hu'=>?_⟩⟩;have u1:=ac hL (.lst [v]);have u2:=ac hu' (.tup [V.str "quote", .ref L]);exact⟨_,_,rfl,s3.trans (u1.trans u2), .tup aa (.cons (dn_k (k:="quote")) (.cons (.lst (u2 _ _ aa) (.cons (d3.same (u1.trans u2)) .nil) (by show 1<=_;decide)) .nil))⟩
  ·rintro σ H3 ⟨x5,v,rfl,s3,d3⟩;exact hN _ _ ⟨x5,v,rfl,s3,d3⟩
 rintro σ H3 ⟨x5,v,rfl,s3,d3⟩;obtain⟨b,hb1,hb2⟩:=xE h1 h6;refine⟨_,rfl,_,rfl,bg2,λu hu'=>?_⟩;have s4:=ac hu' (.tup [V.ref R,v]);exact q u _ (.mk R v (gS m) b (s1.trans (s3.trans s4)) aa ((s3.trans s4) _ _ e1) (by rw[hb2];exact d3.same s4) hb1 (q_sz h1 h6))
end
def dJ (ps:List PC):(PyData.list (ps.map dP)).depth<=4:=aX λd hd=>by
 obtain⟨p,_,rfl⟩:=l20.mp hd;exact sx p
def q9:∀(n:Nat) (e:En n),(dE n e).depth<=2 * n+4
 |0,e=>nomatch e
 |n+1,e=>by
  refine l11 (cr (n:=2 * n+5) λd hd=>?_) nofun;rcases l9.mp hd with z |hd
  ·rw[z,cu];exact l10 _
  rcases l9.mp hd with z |hd
  ·rw[z];exact l11 (dJ _) nofun
  rw[l14.mp hd];exact aX λd hd=>by
   obtain⟨x,_,rfl⟩:=l20.mp hd;exact q9 n x
def gT (cs:List (List PC)):(dt cs).depth<=5:=aX λd hd=>by
 obtain⟨ps,_,rfl⟩:=l20.mp hd;exact dJ ps
def nk {β:Type}{f:β->PyData}{n:Nat}(hn:18<=n)(hf:∀b,(f b).depth<=n):∀b:BkF β,(dBF f b).depth<=n+2:=by
 have str:∀s:Str,(PyData.str s).depth<=n+1:=λs=>by rw[cu];exact l10 _
 have int:∀i:Int,(PyData.int i).depth<=n+1:=λi=>by unfold PyData.depth;exact l10 _
 have pts:∀ps:List PC,(PyData.list (ps.map dP)).depth<=n+1:=λps=>l11 (dJ ps) nofun;have two:∀{a b:PyData},a.depth<=n+1->b.depth<=n+1->(PyData.tuple [a,b]).depth<=n+2:=λha hb=>cr λd hd=>by
  rcases l9.mp hd with z |z
  ·rw[z];exact ha
  ·rw[l14.mp z];exact hb
 have three:∀{a b d:PyData},a.depth<=n+1->b.depth<=n+1->d.depth<=n+1->(PyData.tuple [a,b,d]).depth<=n+2:=λha hb hc=>cr λd hd=>by
  rcases l9.mp hd with z |z
  ·rw[z];exact ha
  ·rcases l9.mp z with z |z
   ·rw[z];exact hb
   ·rw[l14.mp z];exact hc
 intro b;cases b with
 |heading l ps=>exact three (str _) (int _) (pts ps)
 |para ps=>exact two (str _) (pts ps)
 |lst es=>exact two (str _) (aX λd hd=>by obtain⟨e,_,rfl⟩:=l20.mp hd;exact l11 (q9 6 e) nofun)
 |table hd sd ls=>
  refine cr λd h=>?_;rcases l9.mp h with z |h
  ·rw[z];exact str _
  rcases l9.mp h with z |h
  ·rw[z];exact l11 (gT hd) nofun
  rcases l9.mp h with z |h
  ·rw[z];exact l11 (aX (n:=0) λd h=>by obtain⟨b,_,rfl⟩:=l20.mp h;rw[cu];exact l5 _) nofun
  rw[l14.mp h];exact l11 (aX (n:=5) λd h=>by obtain⟨b,_,rfl⟩:=l20.mp h;exact gT b) nofun
 |lit ls=>exact two (str _) (l11 (aX (n:=0) λd h=>by obtain⟨b,_,rfl⟩:=l20.mp h;rw[cu];exact l5 _) nofun)
 |quote bs=>exact two (str _) (aX λd h=>by obtain⟨b,_,rfl⟩:=l20.mp h;exact hf b)
 |name a t=>exact three (str _) (str _) (str _)
 |note a ps=>exact three (str _) (str _) (pts ps)
def lZ:∀(n:Nat) (b:Bl n),(dB n b).depth<=2 * n+20
 |0,b=>nk (n:=18) (l5 _) (λz=>nomatch z) b
 |n+1,b=>l11 (nk (n:=2 * n+20) nofun (lZ n) b) nofun
def xF {ws:List (List Nat)}(h:SmR ws):((ws.map S).map (·.length)).sum+(ws.map S).length * (S [10]).length<=sizeLine:=by
 have e:(S [10]).length=1:=aA _;have:=jm ws;have:=h.sum;rw[gn,l0,e,Nat.mul_one,sizeLine_eq];omega
theorem ue:∀(ws:List (List Nat)),(ao [10] ws).length<=(ws.map λr=>r.length+1).sum
 | []=>l10 _
 | [p]=>by show p.length<=p.length+1+0;omega
 |p::q::r=>by
  have a:=ue (q::r);show (p++[10]++ao [10] (q::r)).length<=_;rw[l6,l6,l12,l24];show p.length+1+_<=_;omega
def RwS.text {m:Nat}{rs:List (List Nat)}(h:RwS m rs)(hm:m<=900)(hn:rs≠[]):aG 10 (ao [10] rs)=rs/\9∉ao [10] rs/\(ao [10] rs).length<=100000:=by
 refine⟨fh 10 rs hn λp hp z=>(h.2 p hp 10 z).2.1 rfl,λz=>?_,?_⟩
 ·rcases fS z with y |⟨r,hr,y⟩
  ·exact absurd (l14.mp y) ∅
  ·exact(h.2 r hr 9 y).2.2 rfl
 ·have:=ue rs;have:=h.1;omega
inductive Pr (m:Nat) (G:Hp) (r:Addr) (v:V) (rs:List (List Nat)) (b:Bl 4):Prop
 |mk:G r=some (.lst (rs.map vS))->Dn G v (dB 4 b)->RdX rs b->RwS m rs->Pr m G r v rs b
def Pr.same {m:Nat}{G G':Hp}{r:Addr}{v:V}{rs:List (List Nat)}{b:Bl 4}(s:Same G G')(h:Pr m G r v rs b):Pr m G' r v rs b:=let ⟨a,b,c,d⟩:=h;⟨s _ _ a,b.same s,c,d⟩
def Pr.wide {m n:Nat}{G:Hp}{r:Addr}{v:V}{rs:List (List Nat)}{b:Bl 4}(k:m<=n)(h:Pr m G r v rs b):Pr n G r v rs b:=let ⟨a,b,c,d⟩:=h;⟨a,b,c,d.le k⟩
def Pt (G:Hp)(p:Addr):Prop:=∃r v rs b,G p=some (.tup [.ref r,v])/\Pr 500 G r v rs b
section
variable {c:Cb}{BT dc:Addr}
abbrev fG:Stmt:=top 106
abbrev yA:List Str:=["_law_script","_law_rows","_law_told","_law_table_here","_law_cells_here","_law_fences_here","_law_literals","_law_quotes","_law_quote","_law_some","_law_due","_law_block","_law_behind","_law_order","_law_dues","_law_at","_law_text"]
inductive spLaw15 (K:Frag)(vs:List V)(H:Hp)(Q:VK)(u3:XK):Prop
 |mk (a:Addr)(ns:List Int)(_:vs=[.ref a])(_:SqL K H a (ns.map V.int))(_:∀H',Same H H'->Q (.bl true) H')
def sY {k:Nat}(hk:6<=k)(F:Fun K "law" "law" fG f fd)(T:TxL mg)(De:Def P w K mg base 1 "_law_cell_at" p13 (spCellAt K))(Yh:Def P w K mg base 2 "_law_items" ["_law_script"] (spItems K))(Yi:Def P w K mg base 2 "_law_table" ["_law_script"] (spLTable K))(Yj:Def P w K mg base 2 "_law_fences" ["_law_script"] (spFences K))(Yk:Def P w K mg base 1 "_law_quoted" ["_law_cell"] spQuoted)
  (Yb:Def P w K mg base k "block_at" p5 (spBlock c (BAt c 3) (rd 4) 0))(DG:Def P w K mg base k "read" ["text"] (spReadT dc (BAt c 4) (rd 4)))
  (hM:MV P w K mg base k "told" (BAt c 4) (OkB 4) (tellsB (dB 4)))(hDoc:MethV P w K mg base k dc "told" ["self"] (spDocTold dc (BAt c 4) (dB 4) (OkB 4))):FnOk P w K mg base CX0 (k+1) f fd ["_law_script"] (spLaw15 K):=by
 have sc:FnScope yA ["_law_script"] (ad fG):=mkS;refine F.oks sc λ{cdv A _ s _ _}H Q hr h=>?_;obtain⟨a,ns,rfl,hq,q⟩:=h;have hu:(A.deeper (PyProof.Rows.envOfC "law" (ad fG) s.heap.objs.size f cdv)).units+64 < cLine:=by
  have:=hr.un;omega
 refine ap (xbc (xasg (xcd Yh hr (xac (xv 0) xa0)) (xgt rfl (xgsc (xgm (i:=1) sc.nd) (xgsc (xgm (i:=2) sc.nd) xgs0))))
  (xbc (xasg (xcd Yi hr (xac (xv 0) xa0)) (xgt rfl (xgsc (xgm (i:=3) sc.nd) (xgsc (xgm (i:=4) sc.nd) xgs0))))
  (xbc (xasg (xcd Yj hr (xac (xv 0) xa0)) (xgt rfl (xgsc (xgm (i:=5) sc.nd) (xgsc (xgm (i:=6) sc.nd) xgs0))))
  (xbc (xasg (xcd Yk hr (xac (xcd De hr (xac (xv 0) (xac xint xa0))) xa0)) (xgt rfl (xgsc (xgm (i:=7) sc.nd) (xgsc (xgm (i:=8) sc.nd) xgs0))))
  (xbc (xfor PassesOwn.never rfl (xil (xlst (xac (xtup (xac (xv 1) (xac (xv 2) xa0))) (xac (xtup (xac (xv 3) (xac (xv 4) xa0))) (xac (xtup (xac (xv 7) (xac (xv 8) xa0))) (xac (xtup (xac (xv 3) (xac (xv 4) xa0))) (xac (xtup (xac (xv 1) (xac (xv 2) xa0))) xa0))))))) (xgt rfl (xgsc (xgm (i:=9) sc.nd) (xgsc (xgm (i:=10) sc.nd) xgs0)))
  (xbc (xasg (xcd Yb hr (xac (xop bM (xop bM (xlst (xac xstr (xac xstr xa0))) (xv 9)) (xlst (xac xstr (xac xstr xa0)))) (xac xint (xac xint xa0)))) (xgt rfl (xgsc (xgm (i:=11) sc.nd) (xgsc (xgm (i:=12) sc.nd) xgs0))))
  (xb1 (xif (xor (ay (tL hu) (xmV0 (k:=k) (xv 11) hr.mono) (xv 10) (al _)) (xor1 (ay gV (xv 12) (xop au xint (xcB aj T.u10 PySem.boot_len (xac (xv 9) xa0))) (al _)))).xt (xb1 (xret xbl)) xb0))))
  (xbc (xif (xand (ay (ij hu) (xv 5) (xlst xa0) (al _)) (gW (ay (tL hu) (xmV0 (k:=k) (xcd DG hr (xac (xm plainAttrs_str slot_str_join type_str_join bz xstr (xac (xv 5) xa0)) xa0)) hr.mono) (xv 6) (al _)))).xt (xb1 (xret xbl)) xb0)
  (xbc (xst (i:=13) sc.nd (xlst (xac (xv 1) (xac (xv 3) (xac (xv 7) xa0)))))
  (xbc (xst (i:=14) sc.nd (xlst (xac (xv 2) (xac (xv 4) (xac (xv 8) xa0)))))
  (xbc (xst (i:=15) sc.nd (xop bq (xcd De hr (xac (xv 0) (xac xint xa0))) xint))
  (xbc (xst (i:=16) sc.nd (xm plainAttrs_str slot_str_join type_str_join bz xstr (xac (xop bM (xop bM (xop bM (xop bM (xix ax (xv 13) (xv 15) (λ_ _=>rfl)) (xlst (xac xstr xa0))) (xix ax (xv 13) (xop bp (xv 15) xint) (λ_ _=>rfl))) (xlst (xac xstr xa0))) (xix ax (xv 13) (xop bp (xv 15) xint) (λ_ _=>rfl))) xa0)))
  (xb1 (xret (xcmp (wW hu) (xmV0 (k:=k) (xcd DG hr (xac (xv 16) xa0)) hr.mono) (xlst (xac (xix ax (xv 14) (xv 15) (λ_ _=>rfl)) (xac (xix ax (xv 14) (xop bp (xv 15) xint) (λ_ _=>rfl)) (xac (xix ax (xv 14) (xop bp (xv 15) xint) (λ_ _=>rfl)) xa0)))) (al _)))))))))))))) ?_
 have hs:=sizeLine_eq;rw[wy];refine⟨_,rfl,a,ns,rfl,hq,λt1 H1 g1=>?_⟩;obtain⟨r1,v1,rs1,b1,s1,et1,er1,d1,x1,w1⟩:=g1;have p1:Pr 500 H1 r1 v1 rs1 b1:=⟨er1,d1,x1,w1⟩;refine⟨t1,_,rfl,SqT.of et1,rfl,_,_,rfl,_,_,rfl,rfl,?_⟩
 left
 clear er1 d1 x1 w1 et1;refine⟨_,rfl,a,ns,rfl,s1.seq hq,λt2 H2 g2=>?_⟩;obtain⟨r2,v2,rs2,b2,s2,et2,er2,d2,x2,w2⟩:=g2;have p2:Pr 110 H2 r2 v2 rs2 b2:=⟨er2,d2,x2,w2⟩;refine⟨t2,_,rfl,SqT.of et2,rfl,_,_,rfl,_,_,rfl,rfl,?_⟩
 left
 clear er2 d2 x2 w2 et2;have s02:=s1.trans s2;refine⟨_,rfl,a,ns,rfl,s02.seq hq,λt3 r3 v3 rs3 H3 s3 et3 er3 d3 w3=>?_⟩;refine⟨t3,_,rfl,SqT.of et3,rfl,_,_,rfl,_,_,rfl,rfl,?_⟩
 left
 have s03:=s02.trans s3;clear et3;refine⟨_,rfl,a,ns,4,rfl,s03.seq hq,λi4=>⟨i4,rfl,λt4 H4 g4=>?_⟩⟩;obtain⟨r4,v4,rs4,b4,s4,et4,er4,d4,x4,w4⟩:=g4;have p4:Pr 45 H4 r4 v4 rs4 b4:=⟨er4,d4,x4,w4⟩;refine⟨t4,_,rfl,SqT.of et4,rfl,_,_,rfl,_,_,rfl,rfl,?_⟩
 left
 clear er4 d4 x4 w4 et4;have s04:=s03.trans s4;have p1:=p1.same (s2.trans (s3.trans s4));have p2:=p2.same (s3.trans s4);have er3:=s4 _ _ er3;have d3:=d3.same s4;clear s1 s2 s3 s4 s02 s03;refine bm (λσ H'=>∃(x9 x10 x11 x12:Option V),σ=[some (V.ref a),some (.ref r1),some v1,some (.ref r2),some v2,some (.ref r3),some v3,some (.ref r4),some v4,x9,x10,x11,x12,none,none,none,none]/\Same H4 H') (λN hN=>?_) ?_
 ·refine⟨_,rfl,_,rfl,bg2,λu1 hu1=>⟨_,rfl,_,rfl,bg2,λu2 hu2=>⟨_,rfl,_,rfl,bg2,λu3 hu3=>⟨_,rfl,_,rfl,bg2,λu4 hu4=>⟨_,rfl,_,rfl,bg2,λu5 hu5=>⟨bg5,λL hL=>⟨L,rfl,⟨_,SqL.of aa⟩,?_⟩⟩⟩⟩⟩⟩⟩;have q1:=ac hu1 (.tup [V.ref r1,v1]);have q2:=ac hu2 (.tup [V.ref r2,v2]);have q3:=ac hu3 (.tup [V.ref r4,v4]);have q4:=ac hu4 (.tup [V.ref r2,v2]);have q5:=ac hu5 (.tup [V.ref r1,v1]);have q6:=ac hL (.lst [V.ref u1, .ref u2, .ref u3, .ref u4, .ref u5]);have q56:=q5.trans q6;have q46:=q4.trans q56;have q36:=q3.trans q46;have q26:=q2.trans q36;have q16:=q1.trans q26;have j9:∀p∈[u1,u2,u3,u4,u5],Pt (upd (upd (upd (upd (upd (upd H4 u1 (.tup [V.ref r1,v1])) u2 (.tup [V.ref r2,v2])) u3 (.tup [V.ref r4,v4])) u4 (.tup [V.ref r2,v2])) u5 (.tup [V.ref r1,v1])) L (.lst [V.ref u1, .ref u2, .ref u3, .ref u4, .ref u5])) p:=by
   intro p hp;rcases l9.mp hp with z |hp
   ·rw[z];exact⟨r1,v1,rs1,b1,q26 _ _ aa,p1.same q16⟩
   rcases l9.mp hp with z |hp
   ·rw[z];exact⟨r2,v2,rs2,b2,q36 _ _ aa,(p2.same q16).wide ∅⟩
   rcases l9.mp hp with z |hp
   ·rw[z];exact⟨r4,v4,rs4,b4,q46 _ _ aa,(p4.same q16).wide ∅⟩
   rcases l9.mp hp with z |hp
   ·rw[z];exact⟨r2,v2,rs2,b2,q56 _ _ aa,(p2.same q16).wide ∅⟩
   ·rw[l14.mp hp];exact⟨r1,v1,rs1,b1,q6 _ _ aa,p1.same q16⟩
  have eL:upd (upd (upd (upd (upd (upd H4 u1 (.tup [V.ref r1,v1])) u2 (.tup [V.ref r2,v2])) u3 (.tup [V.ref r4,v4])) u4 (.tup [V.ref r2,v2])) u5 (.tup [V.ref r1,v1])) L (.lst [V.ref u1, .ref u2, .ref u3, .ref u4, .ref u5]) L=some (.lst ([u1,u2,u3,u4,u5].map V.ref)):=aa;generalize upd (upd (upd (upd (upd (upd H4 u1 (.tup [V.ref r1,v1])) u2 (.tup [V.ref r2,v2])) u3 (.tup [V.ref r4,v4])) u4 (.tup [V.ref r2,v2])) u5 (.tup [V.ref r1,v1])) L (.lst [V.ref u1, .ref u2, .ref u3, .ref u4, .ref u5])=H5 at q16 j9 eL ⊢;clear q1 q2 q3 q4 q5 q6 q56 q46 q36 q26;generalize [u1,u2,u3,u4,u5]=us at j9 eL;refine cw (xs:=us.map V.ref) (λi σ H'=>∃(x9 x10 x11 x12:Option V),σ=[some (V.ref a),some (.ref r1),some v1,some (.ref r2),some v2,some (.ref r3),some v3,some (.ref r4),some v4,x9,x10,x11,x12,none,none,none,none]/\Same H5 H') ⟨none,none,none,none,rfl,Same.refl _⟩ ?_ ?_ ?_
  ·rintro i σ H6 _ ⟨_,_,_,_,_,s6⟩;exact SqL.of (s6 _ _ eL)
  ·rintro i v σ H6 hv ⟨x9,x10,x11,x12,rfl,s6⟩;rw[List.getElem?_map] at hv;obtain⟨p,hp,rfl⟩:=l44.mp hv;obtain⟨r,v,rs,b,ep,hpr⟩:=j9 p (l16 hp);obtain⟨er,dv,hx,hw⟩:=hpr.same s6;refine⟨p,_,rfl,SqT.of (s6 _ _ ep),rfl,_,_,rfl,_,_,rfl,rfl,?_⟩
   left
   have hrl:rs.length<=500:=l11 (fm rs) hw.1;refine⟨bg2,λL1 hL1=>⟨_,rfl,L1,r,_,_,rfl,rfl,aa,ac hL1 _ _ _ er,by rw[l0,hs];show 2+_<=_;omega,λL2 hL2=>⟨bg2,λL3 hL3=>⟨L2,L3,_,_,rfl,rfl,ac hL3 _ _ _ aa,aa,by rw[l6,l0,hs];show 2+_+2<=_;omega,λL4 hL4=>?_⟩⟩⟩⟩;have exs:[V.str (Str.ofString ""),V.str (Str.ofString "= h")]++rs.map vS++[V.str (Str.ofString ""),V.str (Str.ofString "z")]=([]::[61,32,104]::(rs++[[],[122]])).map vS:=by
    rw[l12,l12,l15];rfl
   have hsm:SmR ([]::[61,32,104]::(rs++[[],[122]])):=RwS.sm (m:=520) ((RwS.one (m:=1) (r:=[]) (λ_ z=>nomatch z) (l5 _)).app ((RwS.one (m:=4) (r:=[61,32,104]) (by unfold GdR;decide) (l5 _)).app (hw.app ((RwS.one (m:=1) (r:=[]) (λ_ z=>nomatch z) (l5 _)).app (RwS.one (m:=2) (r:=[122]) (by unfold GdR;decide) (l5 _)))))|>.le ∅) ∅;have hrd:rd 4 (([]::[61,32,104]::(rs++[[],[122]])).drop 2)=(b,rs.length):=hx.2 [[],[122]] rfl;have m1:=(ac hL1 (.lst [V.str (Str.ofString ""),V.str (Str.ofString "= h")])).trans ((ac hL2 (.lst ([V.str (Str.ofString ""),V.str (Str.ofString "= h")]++rs.map vS))).trans ((ac hL3 (.lst [V.str (Str.ofString ""),V.str (Str.ofString "z")])).trans (ac hL4 (.lst ([V.str (Str.ofString ""),V.str (Str.ofString "= h")]++rs.map vS++[V.str (Str.ofString ""),V.str (Str.ofString "z")])))));refine⟨_,2,⟨L4,rfl,by rw[aa,exs],hsm⟩,?_⟩;rw[hrd];intro t a1 H7 s7 ht et hb;have s67:=m1.trans s7;refine⟨t,_,rfl,SqT.of et,rfl,_,_,rfl,_,_,rfl,rfl,?_⟩
   left
   have hbo:OkB 4 b:=by
    have:=vy 4 _ (hsm.drop 2);rw[hrd] at this;exact this
   refine s_if false (t_or false false (λR kk=>?_) λ_ H8 s8=>λR kk=>?_) (λ_ _ z=>Bool.noConfusion z) λH8 s8 _=>⟨_,_,_,_,rfl,s6.trans (s67.trans s8)⟩
   ·obtain⟨Cc,dx,fs,sp,e1,e2,V,hsp⟩:=hM b hbo H7 a1 (aI 4 _ _ _ _ dif_same hb);refine⟨_,rfl,a1,Cc,dx,fs,_,sp,rfl,e1,e2,V,hsp _ _ λv8 H8 ⟨s8,d8⟩=>⟨_,rfl,dB 4 b,(d8.same dif_same).den,(dv.same (s67.trans s8)).den,l11 (lZ 4 b) ∅,_,rfl,kk _ s8⟩⟩
   ·refine⟨_,rfl,_,rfl,r,_,rfl, .inl (SqL.of (s8 _ _ (s67 _ _ er))),_,_,rfl,rfl,rfl,_,rfl,?_⟩;have:(!decide (V.int ((2+rs.length:Nat):Int)=V.int (2+((rs.map vS).length:Int))))=false:=by
     rw[l0,show ((2+rs.length:Nat):Int)=2+(rs.length:Int) by omega];simp
    rw[this];exact kk _ (Same.refl _)
  ·rintro σ H6 ⟨x9,x10,x11,x12,rfl,s6⟩;exact hN _ _ ⟨x9,x10,x11,x12,rfl,q16.trans s6⟩
 rintro σ H5 ⟨x9,x10,x11,x12,rfl,s5⟩;have p1:=p1.same s5;have p2:=p2.same s5;have p4:=p4.same s5;have er3:=s5 _ _ er3;have d3:=d3.same s5;have s05:=s04.trans s5;clear s04 s5;have hok:∀{rs:List (List Nat)},SmR rs->∀b∈bls4 rs,OkB 4 b:=λh b hb=>by
  obtain⟨x,hx,rfl⟩:=l20.mp hb;exact jr (ok:=OkB 4) (λrs h=>vy 4 rs h) _ _ _ h x hx
 have w6:∀{rs:List (List Nat)},SmR rs->(bls4 rs).length<=1000:=λh=>by
  unfold bls4;rw[l0];exact l11 (fR _ _ _) (l11 h.len ∅)
 have hdep:∀bs:List (Bl 4),(PyData.list (bs.map (dB 4))).depth<=64:=λbs=>l11 (aX (n:=28) λd hd=>by obtain⟨x,_,rfl⟩:=l20.mp hd;exact lZ 4 _) ∅;refine aU (t:=tAnd _ _) ?_ λH6 s6=>?_
 ·by_cases hz:rs3=[]
  ·refine dk false false (λR kk=>⟨_,rfl,bg0,λz0 hz0=>⟨r3,z0,_,rfl,rfl,SqL.of (ac hz0 _ _ _ er3),SqL.of aa,_,rfl,?_⟩⟩) λz=>nomatch z;rw[hz];exact kk _ (ac hz0 _)
  ·refine dk true false (λR kk=>⟨_,rfl,bg0,λz0 hz0=>⟨r3,z0,_,rfl,rfl,SqL.of (ac hz0 _ _ _ er3),SqL.of aa,_,rfl,?_⟩⟩) λ_ H6 s6=>λR kk=>?_
   ·obtain⟨x,xs,hx⟩:∃x xs,rs3=x::xs:=by cases rs3 with |nil=>exact absurd rfl hz |cons x xs=>exact⟨x,xs,rfl⟩
    rw[hx];exact kk _ (ac hz0 _)
   ·have hsm:=w3.sm ∅;obtain⟨hsp,h9,hgl⟩:=w3.text ∅ hz;refine⟨rfl,_,rfl,S [10],r3,rs3.map S,rfl,rfl,SqL.of (by rw[s6 _ _ er3,ck]),xF hsm,?_⟩;rw[bD];refine⟨ao [10] rs3,rfl,h9,hgl,by rw[hsp];exact hsm,λdd H7 s7 hdoc=>?_⟩;rw[hsp] at hdoc;obtain⟨dx,lb,edoc,hlb⟩:=hdoc;refine⟨dd,dc,dx,_,_,_,rfl,dif_same _ _ edoc,rfl,hDoc,dd,bls4 rs3,rfl,⟨dx,lb,dif_same _ _ edoc,hlb.same (aI 4) dif_same⟩,w6 hsm,hok hsm,λv8 H8 s8 d8=>⟨_,rfl, .list (dBs rs3),(d8.same dif_same).den,(d3.same ((s6.trans s7).trans s8)).den,hdep _,_,rfl,kk _ (s7.trans s8)⟩⟩
 have s06:=s05.trans s6;have p1:=p1.same s6;have p2:=p2.same s6;have p4:=p4.same s6;clear s05 s6 er3 d3 w3;refine⟨_,rfl,_,rfl,_,rfl,bg3,λOd hOd=>?_⟩
 left
 have m1:=ac hOd (.lst [V.ref r1, .ref r2, .ref r4]);have eO:upd H6 Od (.lst [V.ref r1, .ref r2, .ref r4]) Od=some (.lst [V.ref r1, .ref r2, .ref r4]):=aa;generalize upd H6 Od (.lst [V.ref r1, .ref r2, .ref r4])=H7 at m1 eO ⊢;refine⟨_,rfl,_,rfl,_,rfl,bg3,λDu hDu=>?_⟩
 left
 have m2:=ac hDu (.lst [v1,v2,v4]);have eD:upd H7 Du (.lst [v1,v2,v4]) Du=some (.lst [v1,v2,v4]):=aa;generalize upd H7 Du (.lst [v1,v2,v4])=H8 at m2 eD ⊢;have eO:=m2 _ _ eO;have p1:=p1.same (m1.trans m2);have p2:=p2.same (m1.trans m2);have p4:=p4.same (m1.trans m2);have s08:=s06.trans (m1.trans m2);clear s06 m1 m2;refine⟨_,rfl,a,ns,5,rfl,s08.seq hq,λi5=>⟨_,_,rfl,rfl,show (0:Int) < 3 by omega,?_⟩⟩
 left
 obtain⟨rA,rB,rC,vA,vB,vC,A',B',C',bA,bB,bC,mA,mB,mC,pA,pB,pC,hm,o1,o2,o3,u1,u2,u3⟩:∃(rA rB rC:Addr) (vA vB vC:V) (A' B' C':List (List Nat)) (bA bB bC:Bl 4) (mA mB mC:Nat),Pr mA H8 rA vA A' bA/\Pr mB H8 rB vB B' bB/\Pr mC H8 rC vC C' bC/\mA+mB+mC<=655/\atI [V.ref r1, .ref r2, .ref r4] (i5 % 3)=some (.ref rA)/\atI [V.ref r1, .ref r2, .ref r4] (i5 % 3 - 1)=some (.ref rB)/\atI [V.ref r1, .ref r2, .ref r4] (i5 % 3 - 2)=some (.ref rC)/\atI [v1,v2,v4] (i5 % 3)=some vA/\atI [v1,v2,v4] (i5 % 3 - 1)=some vB/\atI [v1,v2,v4] (i5 % 3 - 2)=some vC:=by
  have:i5 % 3=0 ∨ i5 % 3=1 ∨ i5 % 3=2:=by omega
  rcases this with z |z |z <;> rw[z]
  ·exact⟨_,_,_,_,_,_,_,_,_,_,_,_,_,_,_,p1,p4,p2,by decide,rfl,rfl,rfl,rfl,rfl,rfl⟩
  ·exact⟨_,_,_,_,_,_,_,_,_,_,_,_,_,_,_,p2,p1,p4,by decide,rfl,rfl,rfl,rfl,rfl,rfl⟩
  ·exact⟨_,_,_,_,_,_,_,_,_,_,_,_,_,_,_,p4,p2,p1,by decide,rfl,rfl,rfl,rfl,rfl,rfl⟩
 clear p1 p2 p4;obtain⟨eA,dA,xA,wA⟩:=pA;obtain⟨eB,dB',xB,wB⟩:=pB;obtain⟨eC,dC,xC,wC⟩:=pC;have lA:A'.length<=mA:=l11 (fm A') wA.1;have lB:B'.length<=mB:=l11 (fm B') wB.1;have lC:C'.length<=mC:=l11 (fm C') wC.1;refine⟨rfl,_,rfl,_,rfl,Od,_,_,_,rfl,rfl,SqL.of eO,o1,bg1,λL1 hL1=>⟨rA,L1,_,_,rfl,rfl,ac hL1 _ _ _ eA,aa,by rw[l0,hs];show _+1<=_;omega,λC1 hC1=>?_⟩⟩;have n1:=(ac hL1 (.lst [V.str (Str.ofString "")])).trans (ac hC1 (.lst (A'.map vS++[V.str (Str.ofString "")])));have e1:upd (upd H8 L1 (.lst [V.str (Str.ofString "")])) C1 (.lst (A'.map vS++[V.str (Str.ofString "")])) C1=some (.lst ((A'++[[]]).map vS)):=by rw[aa,l15];rfl
 generalize upd (upd H8 L1 (.lst [V.str (Str.ofString "")])) C1 (.lst (A'.map vS++[V.str (Str.ofString "")]))=H9 at n1 e1 ⊢;refine⟨_,rfl,_,rfl,_,_,rfl,rfl,Od,_,_,_,rfl,rfl,SqL.of (n1 _ _ eO),o2,C1,rB,_,_,rfl,rfl,e1,n1 _ _ eB,by rw[l0,l0,l6,hs];show _+1+_<=_;omega,λC2 hC2=>⟨bg1,λL2 hL2=>⟨C2,L2,_,_,rfl,rfl,ac hL2 _ _ _ aa,aa,by rw[l6,l0,l0,l6,hs];show _+1+_+1<=_;omega,λC3 hC3=>?_⟩⟩⟩;have n2:=n1.trans ((ac hC2 (.lst ((A'++[[]]).map vS++B'.map vS))).trans ((ac hL2 (.lst [V.str (Str.ofString " ")])).trans (ac hC3 (.lst ((A'++[[]]).map vS++B'.map vS++[V.str (Str.ofString " ")])))));have e2:upd (upd (upd H9 C2 (.lst ((A'++[[]]).map vS++B'.map vS))) L2 (.lst [V.str (Str.ofString " ")])) C3 (.lst ((A'++[[]]).map vS++B'.map vS++[V.str (Str.ofString " ")])) C3=some (.lst ((A'++[[]]++B'++[[32]]).map vS)):=by rw[aa,l15 (l₁:=A'++[[]]++B'),l15 (l₁:=A'++[[]])];rfl
 generalize upd (upd (upd H9 C2 (.lst ((A'++[[]]).map vS++B'.map vS))) L2 (.lst [V.str (Str.ofString " ")])) C3 (.lst ((A'++[[]]).map vS++B'.map vS++[V.str (Str.ofString " ")]))=H10 at n2 e2 ⊢;refine⟨_,rfl,_,rfl,_,_,rfl,rfl,Od,_,_,_,rfl,rfl,SqL.of (n2 _ _ eO),o3,C3,rC,_,_,rfl,rfl,e2,n2 _ _ eC,by rw[l0,l0,l6,l6,l6,hs];show _+1+_+1+_<=_;omega,λC4 hC4=>?_⟩;have n3:=n2.trans (ac hC4 (.lst ((A'++[[]]++B'++[[32]]).map vS++C'.map vS)));have eW:A'++[[]]++B'++[[32]]++C'=A'++[]::(B'++[32]::C'):=by simp
 have e3:upd H10 C4 (.lst ((A'++[[]]++B'++[[32]]).map vS++C'.map vS)) C4=some (.lst ((A'++[]::(B'++[32]::C')).map vS)):=by rw[aa,<- l15,eW]
 generalize upd H10 C4 (.lst ((A'++[[]]++B'++[[32]]).map vS++C'.map vS))=H11 at n3 e3 ⊢;have hW:RwS 700 (A'++[]::(B'++[32]::C')):=(wA.app ((RwS.one (m:=1) (r:=[]) (λ_ z=>nomatch z) (l5 _)).app (wB.app ((RwS.one (m:=2) (r:=[32]) (by unfold GdR;decide) (l5 _)).app wC)))).le nofun;have h3:=n6 xA xB xC;have hne:A'++[]::(B'++[32]::C')≠[]:=by simp
 generalize A'++[]::(B'++[32]::C')=W at hW h3 hne e3;have hsm:=hW.sm ∅;obtain⟨hsp,h9,hgl⟩:=hW.text ∅ hne;refine⟨S [10],C4,W.map S,rfl,rfl,SqL.of (by rw[e3,ck]),xF hsm,?_⟩;rw[bD]
 left
 refine⟨_,rfl,ao [10] W,rfl,h9,hgl,by rw[hsp];exact hsm,λdd H12 s12 hdoc=>?_⟩;rw[hsp] at hdoc;obtain⟨dx,lb,edoc,hlb⟩:=hdoc;refine⟨dd,dc,dx,_,_,_,rfl,dif_same _ _ edoc,rfl,hDoc,dd,bls4 W,rfl,⟨dx,lb,dif_same _ _ edoc,hlb.same (aI 4) dif_same⟩,w6 hsm,hok hsm,λv8 H13 s13 d13=>?_⟩;have n4:=n3.trans (s12.trans s13);refine⟨_,rfl,_,rfl,Du,_,_,_,rfl,rfl,SqL.of (n4 _ _ eD),u1,_,rfl,_,rfl,_,_,rfl,rfl,Du,_,_,_,rfl,rfl,SqL.of (n4 _ _ eD),u2,_,rfl,_,rfl,_,_,rfl,rfl,Du,_,_,_,rfl,rfl,SqL.of (n4 _ _ eD),u3,bg3,λL hL=>?_⟩;have n5:=ac hL (.lst [vA,vB,vC]);rw[h3] at d13;refine⟨.list ([bA,bB,bC].map (dB 4)),((d13.same dif_same).same n5).den,Dn.den (.lst aa (.cons (dA.same (n4.trans n5)) (.cons (dB'.same (n4.trans n5)) (.cons (dC.same (n4.trans n5)) .nil))) (by show 3<=_;decide)),hdep _,q _ (s08.trans (n4.trans n5))⟩
end
def b1 {α:Type}{p:List α->Prop}(h:∀a,p [a])(us:List α)(hl:us.length=1):p us:=match us,hl with | [a],_=>h a
def b2 {α:Type}{p:List α->Prop}(h:∀a b,p [a,b])(us:List α)(hl:us.length=2):p us:=match us,hl with | [a,b],_=>h a b
def b3 {α:Type}{p:List α->Prop}(h:∀a b c,p [a,b,c])(us:List α)(hl:us.length=3):p us:=match us,hl with | [a,b,c],_=>h a b c
def b4 {α:Type}{p:List α->Prop}(h:∀a b c d,p [a,b,c,d])(us:List α)(hl:us.length=4):p us:=match us,hl with | [a,b,c,d],_=>h a b c d
def gU {P:Program}{w:World}{K:Frag}{mg:Str->Option Value}{base:Heap}{j k:Nat}{x:Str}{ps:List Str}{sp:Sp}(D:Def P w K mg base j x ps sp)(h:j<=k:=by omega):Def P w K mg base k x ps sp:=let ⟨f,fd,a,r⟩:=D.ex;⟨f,fd,a.mono h,r⟩
def vL {P:Program}{w:World}{K:Frag}{mg:Str->Option Value}{base:Heap}{j k:Nat}{β:Type}{m:Str}{R:Hp->Addr->β->Prop}{ok:β->Prop}{post:β->Hp->V->Hp->Prop}(M:MV P w K mg base j m R ok post)(h:j<=k):MV P w K mg base k m R ok post:=λb hb H a x=>let ⟨C,dx,fs,sp,e1,e2,V,g⟩:=M b hb H a x;⟨C,dx,fs,sp,e1,e2,V.mono h,g⟩
def RE:Hp->Addr->Empty->Prop:=λ_ _ z=>nomatch z
def ma:MoR RE:=λ_ _ _ z=>nomatch z
structure FnIn (K:Frag)(x:Str)(st:Stmt):Prop where
 ex:∃(f:Addr) (oc:Value) (od:Option Addr) (kV dc pm:Value) (an:Option Addr) (cd ct:Value) (sl:Array (Option Value)),nsIn K mainGlobals x=some (some (.ref f)) ∧
  K.lookup f=some ⟨oc,od, .func (fnOf x x (bI st) (br st) (ad st) .none kV dc pm an cd ct),sl⟩/\codeIn K cd x=true/\keepIn K (.ref f)=true
def fnIn_mk {K:Frag}{x:Str}{st:Stmt}{f:Addr}{oc:Value}{od:Option Addr}{kV dc pm:Value}{an:Option Addr}{cd ct:Value}{sl:Array (Option Value)}(a:nsIn K mainGlobals x=some (some (.ref f)))
  (l:K.lookup f=some ⟨oc,od, .func (fnOf x x (bI st) (br st) (ad st) .none kV dc pm an cd ct),sl⟩)(c:codeIn K cd x=true)(k:keepIn K (.ref f)=true):FnIn K x st:=
 ⟨f,oc,od,kV,dc,pm,an,cd,ct,sl,a,l,c,k⟩
section
variable {P:Program}{w:World}{K:Frag}{h:Heap}{mg:Str->Option Value}{base:Heap}{x:Str}{st:Stmt}{ps:List Str}{k:Nat}{sp:Sp}
def ae (X:K.In h)(G:h.Ns mainGlobals mg)(F:FnIn K x st)
  (hb:∀(kV doc pm:Value)(an:Option Addr)(cdv ct:Value)(us:List Value),us.length=ps.length->bindArgs (fnOf x x (bI st) (br st) (ad st) .none kV doc pm an cdv ct) ⟨us,[]⟩=pure (ps.zip us))
  (ok:∀f fd,Fun K x x st f fd->FnOk P w K mg base CX0 k f fd ps sp):Def P w K mg base k x ps sp:=by
 obtain⟨f,oc,od,kV,dc,pm,an,cd,ct,sl,a,l,c,kp⟩:=F.ex;have F1:=ml (st:=st) l c kp;exact⟨f,_,ok f _ F1,mg_of X G a,F1.kp,F1.binds hb⟩
def spNo:Sp:=λ_ _ _ _=>False
def xG {CX:CXT}{f:Addr}{fd:FuncData}:FnOk P w K mg base CX k f fd ps spNo:=⟨λ_ _ _ _ z=>z.elim,λ_ _ _ _ _ _ _ _ _ _ _ _ _ z=>z.elim⟩
end
def cst_mk {K:Frag}{x:Str}{p:Value->Prop}{v:Value}(e:nsIn K mainGlobals x=some (some v))(f:p v):∃v,nsIn K mainGlobals x=some (some v)/\p v:=⟨v,e,f⟩
def ownx_VE {K:Frag}{C:Addr}(q:excIn K C [.type "ValueError", .type "Exception", .type "BaseException", .type "object"] "ValueError.__new__"=true):OwnX K C:=⟨_,_,_,_,q,PySem.F.excBase_ValueError⟩
structure MIn (K:Frag)(C:Addr)(x qual:Str)(st:Stmt):Prop where
 ex:∃(f:Addr) (oc:Value) (od:Option Addr) (kV dc pm:Value) (an:Option Addr) (cd ct:Value) (sl:Array (Option Value)),findIn K (.ref C) x=some (some (.ref f))/\isFn K (.ref f)=true ∧
  K.lookup f=some ⟨oc,od, .func (fnOf x qual (bI st) (br st) (ad st) .none kV dc pm an cd ct),sl⟩/\codeIn K cd qual=true/\keepIn K (.ref f)=true
def mIn_mk {K:Frag}{C:Addr}{x qual:Str}{st:Stmt}{f:Addr}{oc:Value}{od:Option Addr}{kV dc pm:Value}{an:Option Addr}{cd ct:Value}{sl:Array (Option Value)}(a:findIn K (.ref C) x=some (some (.ref f)))(i:isFn K (.ref f)=true)
  (l:K.lookup f=some ⟨oc,od, .func (fnOf x qual (bI st) (br st) (ad st) .none kV dc pm an cd ct),sl⟩)(c:codeIn K cd qual=true)(k:keepIn K (.ref f)=true):MIn K C x qual st:=
 ⟨f,oc,od,kV,dc,pm,an,cd,ct,sl,a,i,l,c,k⟩
def bZ {P:Program}{w:World}{K:Frag}{mg:Str->Option Value}{base:Heap}{x qual:Str}{C:Addr}{st:Stmt}{ps:List Str}{k:Nat}{sp:Sp}(hm:mg x=some (.ref C))(mk:makesIn K C=true)(kc:keepIn K (.ref C)=true)(M:MIn K C "__init__" qual st)
  (hb:∀(kV doc pm:Value)(an:Option Addr)(cdv ct:Value)(us:List Value),us.length=ps.length->bindArgs (fnOf "__init__" qual (bI st) (br st) (ad st) .none kV doc pm an cdv ct) ⟨us,[]⟩=pure (ps.zip us))
  (ok:∀f fd,Fun K "__init__" qual st f fd->FnOk P w K mg base CX0 k f fd ps sp):New P w K mg base k x C ps sp:=by
 obtain⟨f,oc,od,kV,dc,pm,an,cd,ct,sl,a,i,l,c,kp⟩:=M.ex;have F1:=ml (st:=st) l c kp;exact⟨f,_,⟨mk,a,i,kc⟩,ok f _ F1,hm,F1.binds hb⟩
def bh {P:Program}{w:World}{K:Frag}{mg:Str->Option Value}{base:Heap}{x qual:Str}{C:Addr}{st:Stmt}{ps:List Str}{k:Nat}{sp:Sp}(hc:Cls K C)(M:MIn K C x qual st)
  (hb:∀(kV doc pm:Value)(an:Option Addr)(cdv ct:Value)(us:List Value),us.length=ps.length->bindArgs (fnOf x qual (bI st) (br st) (ad st) .none kV doc pm an cdv ct) ⟨us,[]⟩=pure (ps.zip us))
  (ok:∀f fd,Fun K x qual st f fd->FnOk P w K mg base CX0 k f fd ps sp):MethV P w K mg base k C x ps sp:=by
 obtain⟨f,oc,od,kV,dc,pm,an,cd,ct,sl,a,i,l,c,kp⟩:=M.ex;have F1:=ml (st:=st) l c kp;exact⟨f,_,hc,⟨a,i,kp⟩,ok f _ F1,F1.binds hb⟩
structure PIn (K:Frag)(C:Addr):Prop where
 mkc:makesIn K C=true
 kc:keepIn K (.ref C)=true
 pg:plainGet K C Str.empty=true
 hd:hasDictIn K C=true
 po:plainOver K C=true
 sa:findIn K (.ref C) "__setattr__"=some (some (.builtin "object.__setattr__"))
 ha:findIn K (.ref C) "__class__"=some (some (.builtin "object.__class__"))
 hn:specialIn K (.builtin "object.__class__") "__get__"=some (some (.builtin "getset_descriptor.__get__"))
 ht:takesIn K (.builtin "object.__class__")=some true
 hm:mroIn K C (.type "object")=some true
def PIn.cls {K:Frag}{C:Addr}(p:PIn K C):Cls K C:=⟨p.pg,p.hd,p.po,p.sa⟩
def PIn.inst {K:Frag}{C:Addr}(p:PIn K C):Inst K C:=⟨p.cls,p.ha,p.hn,p.ht,p.hm⟩
structure Addrs where
 BadName:Addr
 Plain:Addr
 Code:Addr
 Strong:Addr
 Link:Addr
 Mark:Addr
 Heading:Addr
 Para:Addr
 Literal:Addr
 Quote:Addr
 Naming:Addr
 Noting:Addr
 Entry:Addr
 Listing:Addr
 Table:Addr
 Document:Addr
structure ClsT (K:Frag)(c:Addrs):Prop where
 g14:nsIn K mainGlobals "BadName"=some (some (.ref c.BadName))
 q13:nsIn K mainGlobals "Plain"=some (some (.ref c.Plain))
 u24:nsIn K mainGlobals "Code"=some (some (.ref c.Code))
 g24:nsIn K mainGlobals "Strong"=some (some (.ref c.Strong))
 z24:nsIn K mainGlobals "Link"=some (some (.ref c.Link))
 q24:nsIn K mainGlobals "Mark"=some (some (.ref c.Mark))
 u25:nsIn K mainGlobals "Heading"=some (some (.ref c.Heading))
 g25:nsIn K mainGlobals "Para"=some (some (.ref c.Para))
 z25:nsIn K mainGlobals "Literal"=some (some (.ref c.Literal))
 q25:nsIn K mainGlobals "Quote"=some (some (.ref c.Quote))
 u26:nsIn K mainGlobals "Naming"=some (some (.ref c.Naming))
 g26:nsIn K mainGlobals "Noting"=some (some (.ref c.Noting))
 z26:nsIn K mainGlobals "Entry"=some (some (.ref c.Entry))
 u27:nsIn K mainGlobals "Listing"=some (some (.ref c.Listing))
 g27:nsIn K mainGlobals "Table"=some (some (.ref c.Table))
 z27:nsIn K mainGlobals "Document"=some (some (.ref c.Document))
 u23:OwnX K c.BadName
 z16:PIn K c.Plain
 q35:findIn K (.ref c.Plain) "signs"=some none
 u17:PIn K c.Code
 u36:findIn K (.ref c.Code) "signs"=some none
 g17:PIn K c.Strong
 g36:findIn K (.ref c.Strong) "parts"=some none
 z17:PIn K c.Link
 z36:findIn K (.ref c.Link) "words"=some none
 u37:findIn K (.ref c.Link) "name"=some none
 q17:PIn K c.Mark
 g37:findIn K (.ref c.Mark) "name"=some none
 u18:PIn K c.Heading
 z37:findIn K (.ref c.Heading) "level"=some none
 q37:findIn K (.ref c.Heading) "parts"=some none
 g18:PIn K c.Para
 u38:findIn K (.ref c.Para) "parts"=some none
 z18:PIn K c.Literal
 g38:findIn K (.ref c.Literal) "lines"=some none
 q18:PIn K c.Quote
 z38:findIn K (.ref c.Quote) "blocks"=some none
 u19:PIn K c.Naming
 q38:findIn K (.ref c.Naming) "name"=some none
 u39:findIn K (.ref c.Naming) "target"=some none
 g19:PIn K c.Noting
 g39:findIn K (.ref c.Noting) "name"=some none
 z39:findIn K (.ref c.Noting) "parts"=some none
 z19:PIn K c.Entry
 q39:findIn K (.ref c.Entry) "sign"=some none
 u40:findIn K (.ref c.Entry) "parts"=some none
 g40:findIn K (.ref c.Entry) "entries"=some none
 q19:PIn K c.Listing
 z40:findIn K (.ref c.Listing) "entries"=some none
 u20:PIn K c.Table
 q40:findIn K (.ref c.Table) "head"=some none
 u41:findIn K (.ref c.Table) "sides"=some none
 g41:findIn K (.ref c.Table) "lines"=some none
 g20:PIn K c.Document
 z41:findIn K (.ref c.Document) "blocks"=some none
 q41:kitOne K (.ref c.Plain) (.ref c.Plain)=some true
 u42:kitOne K (.ref c.Plain) (.type "str")=some false
 g42:kitOne K (.ref c.Code) (.ref c.Plain)=some false
 z42:kitOne K (.ref c.Code) (.type "str")=some false
 q42:kitOne K (.ref c.Strong) (.ref c.Plain)=some false
 u43:kitOne K (.ref c.Strong) (.type "str")=some false
 g43:kitOne K (.ref c.Link) (.ref c.Plain)=some false
 z43:kitOne K (.ref c.Link) (.type "str")=some false
 q43:kitOne K (.ref c.Mark) (.ref c.Plain)=some false
 u44:kitOne K (.ref c.Mark) (.type "str")=some false
 g44:MIn K c.Document "__init__" "Document.__init__" fP
 z44:MIn K c.Document "told" "Document.told" fQ
 q44:MIn K c.Plain "__init__" "Plain.__init__" c7
 u45:MIn K c.Plain "told" "Plain.told" c8
 g45:MIn K c.Code "__init__" "Code.__init__" dY
 z45:MIn K c.Code "told" "Code.told" eg
 q45:MIn K c.Strong "__init__" "Strong.__init__" cE
 u46:MIn K c.Strong "told" "Strong.told" cF
 g46:MIn K c.Link "__init__" "Link.__init__" dZ
 z46:MIn K c.Link "told" "Link.told" ej
 u47:MIn K c.Mark "__init__" "Mark.__init__" ee
 g47:MIn K c.Mark "told" "Mark.told" ek
 z47:MIn K c.Heading "__init__" "Heading.__init__" b9
 q47:MIn K c.Heading "told" "Heading.told" ce
 u48:MIn K c.Para "__init__" "Para.__init__" eI
 g48:MIn K c.Para "told" "Para.told" eJ
 z48:MIn K c.Literal "__init__" "Literal.__init__" ca
 q48:MIn K c.Literal "told" "Literal.told" cf
 u49:MIn K c.Quote "__init__" "Quote.__init__" da
 g49:MIn K c.Quote "told" "Quote.told" df
 z49:MIn K c.Naming "__init__" "Naming.__init__" cH
 q49:MIn K c.Naming "told" "Naming.told" cK
 u50:MIn K c.Noting "__init__" "Noting.__init__" cI
 g50:MIn K c.Noting "told" "Noting.told" cL
 z50:MIn K c.Entry "__init__" "Entry.__init__" db
 q50:MIn K c.Entry "told" "Entry.told" dg
 u51:MIn K c.Listing "__init__" "Listing.__init__" cb
 g51:MIn K c.Listing "told" "Listing.told" cg
 z51:MIn K c.Table "__init__" "Table.__init__" de
 q51:MIn K c.Table "told" "Table.told" di
def cls_mk {K:Frag}{aBadName aPlain aCode aStrong aLink aMark aHeading aPara aLiteral aQuote aNaming aNoting aEntry aListing aTable aDocument:Addr}
  (g14:nsIn K mainGlobals "BadName"=some (some (.ref aBadName)))
  (q13:nsIn K mainGlobals "Plain"=some (some (.ref aPlain)))
  (u24:nsIn K mainGlobals "Code"=some (some (.ref aCode)))
  (g24:nsIn K mainGlobals "Strong"=some (some (.ref aStrong)))
  (z24:nsIn K mainGlobals "Link"=some (some (.ref aLink)))
  (q24:nsIn K mainGlobals "Mark"=some (some (.ref aMark)))
  (u25:nsIn K mainGlobals "Heading"=some (some (.ref aHeading)))
  (g25:nsIn K mainGlobals "Para"=some (some (.ref aPara)))
  (z25:nsIn K mainGlobals "Literal"=some (some (.ref aLiteral)))
  (q25:nsIn K mainGlobals "Quote"=some (some (.ref aQuote)))
  (u26:nsIn K mainGlobals "Naming"=some (some (.ref aNaming)))
  (g26:nsIn K mainGlobals "Noting"=some (some (.ref aNoting)))
  (z26:nsIn K mainGlobals "Entry"=some (some (.ref aEntry)))
  (u27:nsIn K mainGlobals "Listing"=some (some (.ref aListing)))
  (g27:nsIn K mainGlobals "Table"=some (some (.ref aTable)))
  (z27:nsIn K mainGlobals "Document"=some (some (.ref aDocument)))
  (u23:OwnX K aBadName)
  (z16:PIn K aPlain)
  (q35:findIn K (.ref aPlain) "signs"=some none)
  (u17:PIn K aCode)
  (u36:findIn K (.ref aCode) "signs"=some none)
  (g17:PIn K aStrong)
  (g36:findIn K (.ref aStrong) "parts"=some none)
  (z17:PIn K aLink)
  (z36:findIn K (.ref aLink) "words"=some none)
  (u37:findIn K (.ref aLink) "name"=some none)
  (q17:PIn K aMark)
  (g37:findIn K (.ref aMark) "name"=some none)
  (u18:PIn K aHeading)
  (z37:findIn K (.ref aHeading) "level"=some none)
  (q37:findIn K (.ref aHeading) "parts"=some none)
  (g18:PIn K aPara)
  (u38:findIn K (.ref aPara) "parts"=some none)
  (z18:PIn K aLiteral)
  (g38:findIn K (.ref aLiteral) "lines"=some none)
  (q18:PIn K aQuote)
  (z38:findIn K (.ref aQuote) "blocks"=some none)
  (u19:PIn K aNaming)
  (q38:findIn K (.ref aNaming) "name"=some none)
  (u39:findIn K (.ref aNaming) "target"=some none)
  (g19:PIn K aNoting)
  (g39:findIn K (.ref aNoting) "name"=some none)
  (z39:findIn K (.ref aNoting) "parts"=some none)
  (z19:PIn K aEntry)
  (q39:findIn K (.ref aEntry) "sign"=some none)
  (u40:findIn K (.ref aEntry) "parts"=some none)
  (g40:findIn K (.ref aEntry) "entries"=some none)
  (q19:PIn K aListing)
  (z40:findIn K (.ref aListing) "entries"=some none)
  (u20:PIn K aTable)
  (q40:findIn K (.ref aTable) "head"=some none)
  (u41:findIn K (.ref aTable) "sides"=some none)
  (g41:findIn K (.ref aTable) "lines"=some none)
  (g20:PIn K aDocument)
  (z41:findIn K (.ref aDocument) "blocks"=some none)
  (q41:kitOne K (.ref aPlain) (.ref aPlain)=some true)
  (u42:kitOne K (.ref aPlain) (.type "str")=some false)
  (g42:kitOne K (.ref aCode) (.ref aPlain)=some false)
  (z42:kitOne K (.ref aCode) (.type "str")=some false)
  (q42:kitOne K (.ref aStrong) (.ref aPlain)=some false)
  (u43:kitOne K (.ref aStrong) (.type "str")=some false)
  (g43:kitOne K (.ref aLink) (.ref aPlain)=some false)
  (z43:kitOne K (.ref aLink) (.type "str")=some false)
  (q43:kitOne K (.ref aMark) (.ref aPlain)=some false)
  (u44:kitOne K (.ref aMark) (.type "str")=some false)
  (g44:MIn K aDocument "__init__" "Document.__init__" fP)
  (z44:MIn K aDocument "told" "Document.told" fQ)
  (q44:MIn K aPlain "__init__" "Plain.__init__" c7)
  (u45:MIn K aPlain "told" "Plain.told" c8)
  (g45:MIn K aCode "__init__" "Code.__init__" dY)
  (z45:MIn K aCode "told" "Code.told" eg)
  (q45:MIn K aStrong "__init__" "Strong.__init__" cE)
  (u46:MIn K aStrong "told" "Strong.told" cF)
  (g46:MIn K aLink "__init__" "Link.__init__" dZ)
  (z46:MIn K aLink "told" "Link.told" ej)
  (u47:MIn K aMark "__init__" "Mark.__init__" ee)
  (g47:MIn K aMark "told" "Mark.told" ek)
  (z47:MIn K aHeading "__init__" "Heading.__init__" b9)
  (q47:MIn K aHeading "told" "Heading.told" ce)
  (u48:MIn K aPara "__init__" "Para.__init__" eI)
  (g48:MIn K aPara "told" "Para.told" eJ)
  (z48:MIn K aLiteral "__init__" "Literal.__init__" ca)
  (q48:MIn K aLiteral "told" "Literal.told" cf)
  (u49:MIn K aQuote "__init__" "Quote.__init__" da)
  (g49:MIn K aQuote "told" "Quote.told" df)
  (z49:MIn K aNaming "__init__" "Naming.__init__" cH)
  (q49:MIn K aNaming "told" "Naming.told" cK)
  (u50:MIn K aNoting "__init__" "Noting.__init__" cI)
  (g50:MIn K aNoting "told" "Noting.told" cL)
  (z50:MIn K aEntry "__init__" "Entry.__init__" db)
  (q50:MIn K aEntry "told" "Entry.told" dg)
  (u51:MIn K aListing "__init__" "Listing.__init__" cb)
  (g51:MIn K aListing "told" "Listing.told" cg)
  (z51:MIn K aTable "__init__" "Table.__init__" de)
  (q51:MIn K aTable "told" "Table.told" di)
  : ∃c:Addrs,ClsT K c:=⟨⟨aBadName,aPlain,aCode,aStrong,aLink,aMark,aHeading,aPara,aLiteral,aQuote,aNaming,aNoting,aEntry,aListing,aTable,aDocument⟩,⟨g14,q13,u24,g24,z24,q24,u25,g25,z25,q25,u26,g26,z26,u27,g27,z27,u23,z16,q35,u17,u36,g17,g36,z17,z36,u37,q17,g37,u18,z37,q37,g18,u38,z18,g38,q18,z38,u19,q38,u39,g19,g39,z39,z19,q39,u40,g40,q19,z40,u20,q40,u41,g41,g20,z41,q41,u42,g42,z42,q42,u43,g43,z43,q43,u44,g44,z44,q44,u45,g45,z45,q45,u46,g46,z46,u47,g47,z47,q47,u48,g48,z48,q48,u49,g49,z49,q49,u50,g50,z50,q50,u51,g51,z51,q51⟩⟩
structure Top (K:Frag):Prop where
 u52:FnIn K "told_parts" pi
 q53:FnIn K "is_parting_bar" sBar
 u54:FnIn K "words_of" pj
 g54:FnIn K "tidy" uV
 z54:FnIn K "split_cells" pk
 q54:FnIn K "is_name" uX
 u55:FnIn K "name_of" lj
 g55:FnIn K "rest_of_quote" uZ
 z55:FnIn K "heading_level" u6
 q55:FnIn K "is_cells" sIsC
 u56:FnIn K "definition_of" sDef
 g56:FnIn K "item_or_plain" u8
 z56:FnIn K "sort_of" va
 u57:FnIn K "is_rule" vd
 g57:FnIn K "takes_next" pL
 z57:FnIn K "freed" pO
 q57:FnIn K "closings_of" gC
 u58:FnIn K "code_at" lw
 g58:FnIn K "mark_at" lx
 z58:FnIn K "link_at" ly
 q58:FnIn K "piece_at" ja
 u59:FnIn K "pieces_of" lz
 g59:FnIn K "merged" jb
 z59:FnIn K "with_strong" fO
 q59:FnIn K "parts_of" jc
 u60:FnIn K "own_cells" sOwn
 g52:FnIn K "told_entries" lG
 g60:FnIn K "told_cells" pY
 z60:FnIn K "is_empty" qe
 q60:FnIn K "sort_at" lH
 u61:FnIn K "further_words" jl
 z20:FnIn K "para_at" vq
 q20:FnIn K "note_at" vt
 u21:FnIn K "literal_at" vv
 g21:FnIn K "quote_at" lL
 z21:FnIn K "blocks_of" kC
 u13:FnIn K "entries_from" sEnt
 g61:FnIn K "leveled" sLvl
 q21:FnIn K "list_at" qm
 z61:FnIn K "cells_of" jq
 u22:FnIn K "table_of" qo
 g22:FnIn K "table_at" lN
 z22:FnIn K "block_at" kD
 q61:FnIn K "need_text" qr
 u62:FnIn K "rows_of" lO
 g62:FnIn K "read" qu
 f__law_cell_at:FnIn K "_law_cell_at" lT
 f__law_mixed:FnIn K "_law_mixed" qJ
 f__law_items:FnIn K "_law_items" m9
 f__law_cells:FnIn K "_law_cells" lV
 f__law_table:FnIn K "_law_table" jv
 f__law_fences:FnIn K "_law_fences" jw
 f__law_quoted:FnIn K "_law_quoted" lY
 z62:FnIn K "law" fG
 g10:nsIn K mainGlobals "list"=some none
 u10:nsIn K mainGlobals "len"=some none
 q11:nsIn K mainGlobals "isinstance"=some none
 g12:nsIn K mainGlobals "all"=some none
 g11:nsIn K mainGlobals "str"=some none
 g13:nsIn K mainGlobals "tuple"=some none
 q10:nsIn K mainGlobals "range"=some none
 q15:nsIn K mainGlobals "int"=some none
 z13:nsIn K mainGlobals "enumerate"=some none
 q22:nsIn K mainGlobals "bool"=some none
 u11:nsIn K mainGlobals "min"=some none
 z11:nsIn K mainGlobals "max"=some none
 z12:∃v,nsIn K mainGlobals "NAME_SIGNS"=some (some v)/\∃t,v = .str (S nameSigns) t
 u12:∃v,nsIn K mainGlobals "LONGEST_NAME"=some (some v)/\∃t,v = .int 12 t
 q12:∃v,nsIn K mainGlobals "FENCE"=some (some v)/\∃t,v = .str (S [126,126,126]) t
 u16:∃v,nsIn K mainGlobals "DEEPEST_HEADING"=some (some v)/\∃t,v = .int 3 t
 u14:∃v,nsIn K mainGlobals "NAME_END"=some (some v)/\∃t,v = .str (S [93,58,32]) t
 z14:∃v,nsIn K mainGlobals "TAKEN"=some (some v)/\∃t,v = .str (S takenC) t
 g15:∃v,nsIn K mainGlobals "MOST_QUOTES"=some (some v)/\∃t,v = .int 4 t
 z15:∃v,nsIn K mainGlobals "MOST_ENTRIES"=some (some v)/\∃t,v = .int 6 t
 cl:∃c:Addrs,ClsT K c
def all_law {P:Program}{w:World}{K:Frag}{h:Heap}{mg:Str->Option Value}{fa:Addr}(X:K.In h)(G:h.Ns mainGlobals mg)(hfa:mg "law"=some (.ref fa))(t:Top K):
  ∃fd:FuncData,(∀(s:Shared) (v:Value),BindsTo s fd ⟨[v],[]⟩ [("_law_script",v)])/\∀base:Heap,K.In base->base.Ns mainGlobals mg->FnOk P w K mg base CX0 46 fa fd ["_law_script"] (spLaw15 K):=by
 obtain⟨z,L⟩:=t.cl
 let cp:Cp:=⟨0,z.Plain,z.Code,z.Strong,z.Link,z.Mark⟩
 let c:Cb:=⟨cp,z.Heading,z.Para,z.Literal,z.Quote,z.Naming,z.Noting,z.Entry,z.Listing,z.Table⟩
 have g10:=mg_none_of X G t.g10;have u10:=mg_none_of X G t.u10;have q11:=mg_none_of X G t.q11;have g12:=mg_none_of X G t.g12;have g11:=mg_none_of X G t.g11;have g13:=mg_none_of X G t.g13;have q10:=mg_none_of X G t.q10;have q15:=mg_none_of X G t.q15;have z13:=mg_none_of X G t.z13;have q22:=mg_none_of X G t.q22;have u11:=mg_none_of X G t.u11;have z11:=mg_none_of X G t.z11;have z12:∃t,mg "NAME_SIGNS"=some (.str (S nameSigns) t):=by obtain⟨v,e,k,rfl⟩:=t.z12;exact⟨k,mg_of X G e⟩
 have u12:∃t,mg "LONGEST_NAME"=some (.int 12 t):=by obtain⟨v,e,k,rfl⟩:=t.u12;exact⟨k,mg_of X G e⟩
 have q12:∃t,mg "FENCE"=some (.str (S [126,126,126]) t):=by obtain⟨v,e,k,rfl⟩:=t.q12;exact⟨k,mg_of X G e⟩
 have u16:∃t,mg "DEEPEST_HEADING"=some (.int 3 t):=by obtain⟨v,e,k,rfl⟩:=t.u16;exact⟨k,mg_of X G e⟩
 have u14:∃t,mg "NAME_END"=some (.str (S [93,58,32]) t):=by obtain⟨v,e,k,rfl⟩:=t.u14;exact⟨k,mg_of X G e⟩
 have z14:∃t,mg "TAKEN"=some (.str (S takenC) t):=by obtain⟨v,e,k,rfl⟩:=t.z14;exact⟨k,mg_of X G e⟩
 have g15:∃t,mg "MOST_QUOTES"=some (.int 4 t):=by obtain⟨v,e,k,rfl⟩:=t.g15;exact⟨k,mg_of X G e⟩
 have z15:∃t,mg "MOST_ENTRIES"=some (.int 6 t):=by obtain⟨v,e,k,rfl⟩:=t.z15;exact⟨k,mg_of X G e⟩
 have g14:=mg_of X G L.g14;have q13:=mg_of X G L.q13;have u24:=mg_of X G L.u24;have g24:=mg_of X G L.g24;have z24:=mg_of X G L.z24;have q24:=mg_of X G L.q24;have u25:=mg_of X G L.u25;have g25:=mg_of X G L.g25;have z25:=mg_of X G L.z25;have q25:=mg_of X G L.q25;have u26:=mg_of X G L.u26;have g26:=mg_of X G L.g26;have z26:=mg_of X G L.z26;have u27:=mg_of X G L.u27;have g27:=mg_of X G L.g27;have z27:=mg_of X G L.z27;have T : TxP K mg cp z.BadName := {
  g10:=g10
  u10:=u10
  q11:=q11
  g12:=g12
  g11:=g11
  g13:=g13
  z12:=z12
  u12:=u12
  g14:=g14
  u23:=L.u23
  q13:=q13
  q27:=L.z16.inst
  u28:=L.u17.inst
  g28:=L.g17.inst
  g16:=L.z17.inst
  z28:=L.q17.inst
  q28:=L.q35
  u29:=L.u36
  g29:=L.g36
  z29:=L.z36
  q29:=L.u37
  u30:=L.g37
  q62:=L.q41
  u63:=L.g42
  g63:=L.q42
  z63:=L.g43
  q63:=L.q43
 }
 have TI:TxI K mg cp z.BadName:={ T with z14:=z14,z52:=L.u42,q52:=L.z42,u53:=L.u43,g53:=L.z43,z53:=L.u44 };have TB:TxB K mg c z.BadName:={ TI with q12:=q12,z13:=z13,g23:=L.u18.inst,g30:=L.g18.inst,z30:=L.z18.inst,q30:=L.q18.inst,z23:=L.u19.inst,q23:=L.g19.inst,q14:=L.z19.inst,u31:=L.q19.inst,u15:=L.u20.inst,g31:=L.z37,z31:=L.q37,q31:=L.u38,u32:=L.g38,g32:=L.z38,z32:=L.q38,q32:=L.u39,u33:=L.g39,g33:=L.z39,z33:=L.q39,q33:=L.u40,u34:=L.g40,g34:=L.z40,z34:=L.q40,q34:=L.u41,u35:=L.g41 };have TD:TxD K mg c z.BadName:={ TB with g15:=g15,z15:=z15,u11:=u11,z11:=z11 };have TF:TxF K mg c z.Document z.BadName:={ TD with g35:=L.g20.inst,z35:=L.z41 };have TX:Tx mg:=⟨u10,q10,q11,g12,g11,q22,g13,z13,q15,g10,z12,u12,q12,u16,u14⟩;obtain⟨f,oc,od,kV,dc,pm,an,cd,ct,sl,a,l,cc,kp⟩:=t.z62.ex;have e:=hfa.symm.trans (mg_of X G a);cases e;refine⟨fnOf "law" "law" (bI fG) (br fG) (ad fG) .none kV dc pm an cd ct,λs v => .of_eq rfl,λbase _ _=>?_⟩;have DE:Def P w K mg base 1 "own_cells" ["cells"] spOwn:=ae X G t.u60 (λ_ _ _ _ _ _=>b1 λ_=>rfl) λf fd F=>xg F TB;have DD:New P w K mg base 1 "Plain" cp.Plain p9 (spInit1 cp.Plain "signs"):=bZ q13 L.z16.mkc L.z16.kc L.q44 (λ_ _ _ _ _ _=>b2 λ_ _=>rfl) λf fd F=>kb F T;have DN:New P w K mg base 1 "Code" cp.Code p9 (spInit1 cp.Code "signs"):=bZ u24 L.u17.mkc L.u17.kc L.g45 (λ_ _ _ _ _ _=>b2 λ_ _=>rfl) λf fd F=>la F T;have DW:New P w K mg base 1 "Strong" cp.Strong p10 (spInitS cp.Strong):=bZ g24 L.g17.mkc L.g17.kc L.q45 (λ_ _ _ _ _ _=>b2 λ_ _=>rfl) λf fd F=>iV F T;have DP:New P w K mg base 1 "Link" cp.Link p17 (spInit2 cp.Link "words" "name"):=bZ z24 L.z17.mkc L.z17.kc L.g46 (λ_ _ _ _ _ _=>b3 λ_ _ _=>rfl) λf fd F=>ld F T;have DO:New P w K mg base 1 "Mark" cp.Mark p16 (spInit1 cp.Mark "name"):=bZ q24 L.q17.mkc L.q17.kc L.u47 (λ_ _ _ _ _ _=>b2 λ_ _=>rfl) λf fd F=>lc F T;have Dx:New P w K mg base 1 "Heading" c.Heading p19 (spInitVL c.Heading "level" "parts"):=bZ u25 L.u18.mkc L.u18.kc L.z47 (λ_ _ _ _ _ _=>b3 λ_ _ _=>rfl) λf fd F=>g6 F TB;have Dp:New P w K mg base 1 "Para" c.Para p10 (spInitL c.Para "parts"):=bZ g25 L.g18.mkc L.g18.kc L.u48 (λ_ _ _ _ _ _=>b2 λ_ _=>rfl) λf fd F=>lD F TB;have Dr:New P w K mg base 1 "Literal" c.Literal p14 (spInitL c.Literal "lines"):=bZ z25 L.z18.mkc L.z18.kc L.z48 (λ_ _ _ _ _ _=>b2 λ_ _=>rfl) λf fd F=>gZ F TB;have DC:New P w K mg base 1 "Quote" c.Quote p11 (spInitL c.Quote "blocks"):=bZ q25 L.q18.mkc L.q18.kc L.u49 (λ_ _ _ _ _ _=>b2 λ_ _=>rfl) λf fd F=>km F TB;have Dy:New P w K mg base 1 "Naming" c.Naming p21 (spInit2 c.Naming "name" "target"):=bZ u26 L.u19.mkc L.u19.kc L.z49 (λ_ _ _ _ _ _=>b3 λ_ _ _=>rfl) λf fd F=>jf F TB;have Dq:New P w K mg base 1 "Noting" c.Noting p20 (spInitVL c.Noting "name" "parts"):=bZ g26 L.g19.mkc L.g19.kc L.u50 (λ_ _ _ _ _ _=>b3 λ_ _ _=>rfl) λf fd F=>je F TB;have Dl:New P w K mg base 1 "Entry" c.Entry p22 (spInitE c.Entry):=bZ z26 L.z19.mkc L.z19.kc L.z50 (λ_ _ _ _ _ _=>b4 λ_ _ _ _=>rfl) λf fd F=>kn F TB;have Dv:New P w K mg base 1 "Listing" c.Listing p18 (spInitL c.Listing "entries"):=bZ u27 L.q19.mkc L.q19.kc L.u51 (λ_ _ _ _ _ _=>b2 λ_ _=>rfl) λf fd F=>g0 F TB;have Do:New P w K mg base 2 "Table" c.Table p23 (spInitT c.Table):=bZ g27 L.u20.mkc L.u20.kc L.z51 (λ_ _ _ _ _ _=>b4 λ_ _ _ _=>rfl) λf fd F=>ko F TB DE;have V_Plain:MethV P w K mg base 1 cp.Plain "told" ["self"] (spTold cp λp=>∃s,p = .one (.plain s)):=bh L.z16.cls L.u45 (λ_ _ _ _ _ _=>b1 λ_=>rfl) λf fd F=>kd F T;have V_Code:MethV P w K mg base 1 cp.Code "told" ["self"] (spTold cp λp=>∃s,p = .one (.code s)):=bh L.u17.cls L.z45 (λ_ _ _ _ _ _=>b1 λ_=>rfl) λf fd F=>lf F T;have V_Mark:MethV P w K mg base 1 cp.Mark "told" ["self"] (spTold cp λp=>∃s,p = .one (.note s)):=bh L.q17.cls L.g47 (λ_ _ _ _ _ _=>b1 λ_=>rfl) λf fd F=>lg F T;have V_Link:MethV P w K mg base 1 cp.Link "told" ["self"] (spTold cp λp=>∃s n,p = .one (.link s n)):=bh L.z17.cls L.z46 (λ_ _ _ _ _ _=>b1 λ_=>rfl) λf fd F=>li F T;have W1:∀{k:Nat},1<=k->∀(p:P1) H a,PCAt cp H a (.one p)->∃C dx fs sp,H a=some (.ins C dx fs)/\fs.lookup ("told":Str)=none/\MethV P w K mg base k C "told" ["self"] sp/\∀Q E,(∀v H',Same H H'->Dn (dif H H') v (dP (.one p))->Q v H')->sp [.ref a] H Q E:=λ{k} hk p H a h=>by
  cases p with
  |plain s=>
   obtain⟨_,dx,e⟩:=id h;exact⟨_,dx,_,_,e,rfl,V_Plain.mono hk,λQ E g=>⟨a,_,rfl,h,⟨s,rfl⟩,g⟩⟩
  |code s=>
   obtain⟨_,dx,e⟩:=id h;exact⟨_,dx,_,_,e,rfl,V_Code.mono hk,λQ E g=>⟨a,_,rfl,h,⟨s,rfl⟩,g⟩⟩
  |link s n=>
   obtain⟨_,_,dx,e⟩:=id h;exact⟨_,dx,_,_,e,rfl,V_Link.mono hk,λQ E g=>⟨a,_,rfl,h,⟨s,n,rfl⟩,g⟩⟩
  |note s=>
   obtain⟨_,dx,e⟩:=id h;exact⟨_,dx,_,_,e,rfl,V_Mark.mono hk,λQ E g=>⟨a,_,rfl,h,⟨s,rfl⟩,g⟩⟩
 have M1:uS P w K mg base 1 cp R1:=λp hp H a h=>by
  cases p with
  |one p=>exact W1 (l5 1) p H a h
  |strong ps=>exact absurd hp (by unfold R1;simp[one?])
 have Ys:Def P w K mg base 2 "told_parts" ["parts"] (spTolds cp R1):=ae X G t.u52 (λ_ _ _ _ _ _=>b1 λ_=>rfl) λf fd F=>mG F M1;have V_Strong:MethV P w K mg base 3 cp.Strong "told" ["self"] (spTold cp λp=>∃ps,p = .strong ps/\ps.length<=100000):=bh L.g17.cls L.u46 (λ_ _ _ _ _ _=>b1 λ_=>rfl) λf fd F=>iW F T Ys;have M2:uS P w K mg base 3 cp R2:=λp hp H a h=>by
  cases p with
  |one p=>exact W1 ∅ p H a h
  |strong ps=>
   obtain⟨dx,l,as,e,_⟩:=id h;exact⟨_,dx,_,_,e,rfl,V_Strong,λQ E g=>⟨a,_,rfl,h,⟨ps,rfl,hp⟩,g⟩⟩
 have Dc:Def P w K mg base 4 "told_parts" ["parts"] (spTolds cp R2):=ae X G t.u52 (λ_ _ _ _ _ _=>b1 λ_=>rfl) λf fd F=>mG F M2;have DA:Def P w K mg base 1 "is_parting_bar" p6 spBar:=ae X G t.q53 (λ_ _ _ _ _ _=>b2 λ_ _=>rfl) λf fd F=>wO F;have Dz:Def P w K mg base 1 "words_of" ["text"] spWords:=ae X G t.u54 (λ_ _ _ _ _ _=>b1 λ_=>rfl) λf fd F=>sh F;have Df:Def P w K mg base 2 "tidy" ["text"] spTidy:=ae X G t.g54 (λ_ _ _ _ _ _=>b1 λ_=>rfl) λf fd F=>uW F Dz;have DK:Def P w K mg base 3 "split_cells" ["text"] Lw.spCells:=ae X G t.z54 (λ_ _ _ _ _ _=>b1 λ_=>rfl) λf fd F=>si F TX DA Df;have Dg:Def P w K mg base 1 "is_name" ["thing"] spName:=ae X G t.q54 (λ_ _ _ _ _ _=>b1 λ_=>rfl) λf fd F=>uY F TX;have Dj:Def P w K mg base 2 "name_of" ["thing"] spNameOf:=ae X G t.u55 (λ_ _ _ _ _ _=>b1 λ_=>rfl) λf fd F=>pp F TX Dg;have DH:Def P w K mg base 1 "rest_of_quote" ["row"] spRest:=ae X G t.g55 (λ_ _ _ _ _ _=>b1 λ_=>rfl) λf fd F=>u0 F;have DI:Def P w K mg base 1 "heading_level" ["bare"] spHead:=ae X G t.z55 (λ_ _ _ _ _ _=>b1 λ_=>rfl) λf fd F=>u7 F TX;have DJ:Def P w K mg base 2 "is_cells" ["bare"] spIsC:=ae X G t.q55 (λ_ _ _ _ _ _=>b1 λ_=>rfl) λf fd F=>wP F TX DA;have DL:Def P w K mg base 3 "definition_of" ["bare"] (spDef K):=ae X G t.u56 (λ_ _ _ _ _ _=>b1 λ_=>rfl) λf fd F=>wQ F TX Dz Dg Dj;have DM:Def P w K mg base 3 "item_or_plain" ["bare"] (spItem K):=ae X G t.g56 (λ_ _ _ _ _ _=>b1 λ_=>rfl) λf fd F=>u9 F TX Df;have Dh:Def P w K mg base 4 "sort_of" ["row"] (spSort K):=ae X G t.z56 (λ_ _ _ _ _ _=>b1 λ_=>rfl) λf fd F=>vb F TX Df DH DI DJ DK DL DM;have Dw:Def P w K mg base 1 "is_rule" ["text"] spRule:=ae X G t.u57 (λ_ _ _ _ _ _=>b1 λ_=>rfl) λf fd F=>ve F;have DF:Def P w K mg base 5 "told_cells" ["cells"] (spTC c):=ae X G t.g60 (λ_ _ _ _ _ _=>b1 λ_=>rfl) λf fd F=>sy F Dc;have I_te:∀n:Nat,Def P w K mg base (2+6 * n) "told_entries" ["entries"] (spTEs c n):=λn=>by
  induction n with
  |zero=>exact ae X G t.g52 (λ_ _ _ _ _ _=>b1 λ_=>rfl) λf fd F=>kq F (k:=1) (λz=>nomatch z)
  |succ n ih=>
   have V:=bh (P:=P) (w:=w) (mg:=mg) (base:=base) L.z19.cls L.q50 (λ_ _ _ _ _ _=>b1 λ_=>rfl) λf fd F=>kr F TB Dc ih;have M:MV P w K mg base (2+6 * n+5) "told" (EAt c (n+1)) (OkE (n+1)) (tellsB (dE (n+1))):=λb hb H a h=>by
    obtain⟨dx,l,m,e,_⟩:=id h;exact⟨_,dx,_,_,e,rfl,V,λQ E g=>⟨a,b,rfl,h,hb,λv H' s d=>g v H' ⟨s,d⟩⟩⟩
   exact ae X G t.g52 (λ_ _ _ _ _ _=>b1 λ_=>rfl) λf fd F=>kq F M
 have TS:∀{β:Type} (R:Hp->Addr->β->Prop) (fB:β->PyData) (ok:β->Prop) (k:Nat),MoR R->39<=k->MV P w K mg base k "told" R ok (tellsB fB)->MV P w K mg base (k+1) "told" (BAtF c R) (OkBF ok) (tellsB (dBF fB)):=λ{β} R fB ok k mR hk hM b hb H a h=>by
  cases b with
  |heading n ps=>
   obtain⟨dx,l,e,_⟩:=id h;exact⟨_,dx,_,_,e,rfl,(bh (P:=P) (w:=w) (mg:=mg) (base:=base) L.u18.cls L.q47 (λ_ _ _ _ _ _=>b1 λ_=>rfl) λf fd F=>g7 (R:=R) (fB:=fB) (ok:=ok) F TB Dc).mono nofun,λQ E g=>⟨a,_,rfl,h,⟨n,ps,rfl⟩,hb,λv H' s d=>g v H' ⟨s,d⟩⟩⟩
  |para ps=>
   obtain⟨dx,l,e,_⟩:=id h;exact⟨_,dx,_,_,e,rfl,(bh (P:=P) (w:=w) (mg:=mg) (base:=base) L.g18.cls L.g48 (λ_ _ _ _ _ _=>b1 λ_=>rfl) λf fd F=>lF (R:=R) (fB:=fB) (ok:=ok) F TB Dc).mono nofun,λQ E g=>⟨a,_,rfl,h,⟨ps,rfl⟩,hb,λv H' s d=>g v H' ⟨s,d⟩⟩⟩
  |lst es=>
   obtain⟨dx,l,e,_⟩:=id h;exact⟨_,dx,_,_,e,rfl,(bh (P:=P) (w:=w) (mg:=mg) (base:=base) L.q19.cls L.g51 (λ_ _ _ _ _ _=>b1 λ_=>rfl) λf fd F=>g9 (R:=R) (fB:=fB) (ok:=ok) F TB (I_te 6)).mono nofun,λQ E g=>⟨a,_,rfl,h,⟨es,rfl⟩,hb,λv H' s d=>g v H' ⟨s,d⟩⟩⟩
  |table hd sd ls=>
   obtain⟨dx,l1,l2,l3,e,_⟩:=id h;exact⟨_,dx,_,_,e,rfl,(bh (P:=P) (w:=w) (mg:=mg) (base:=base) L.u20.cls L.q51 (λ_ _ _ _ _ _=>b1 λ_=>rfl) λf fd F=>ku (R:=R) (fB:=fB) (ok:=ok) F TB DF).mono nofun,λQ E g=>⟨a,_,rfl,h,⟨hd,sd,ls,rfl⟩,hb,λv H' s d=>g v H' ⟨s,d⟩⟩⟩
  |lit ls=>
   obtain⟨dx,l,e,_⟩:=id h;exact⟨_,dx,_,_,e,rfl,(bh (P:=P) (w:=w) (mg:=mg) (base:=base) L.z18.cls L.q48 (λ_ _ _ _ _ _=>b1 λ_=>rfl) λf fd F=>g8 (R:=R) (fB:=fB) (ok:=ok) F TB).mono nofun,λQ E g=>⟨a,_,rfl,h,⟨ls,rfl⟩,hb,λv H' s d=>g v H' ⟨s,d⟩⟩⟩
  |quote bs=>
   obtain⟨dx,l,e,_⟩:=id h;exact⟨_,dx,_,_,e,rfl,(bh (P:=P) (w:=w) (mg:=mg) (base:=base) L.q18.cls L.g49 (λ_ _ _ _ _ _=>b1 λ_=>rfl) λf fd F=>kt F TB hM mR).mono nofun,λQ E g=>⟨a,_,rfl,h,⟨bs,rfl⟩,hb,λv H' s d=>g v H' ⟨s,d⟩⟩⟩
  |name n t=>
   obtain⟨dx,e⟩:=id h;exact⟨_,dx,_,_,e,rfl,(bh (P:=P) (w:=w) (mg:=mg) (base:=base) L.u19.cls L.q49 (λ_ _ _ _ _ _=>b1 λ_=>rfl) λf fd F=>jh (R:=R) (fB:=fB) (ok:=ok) F TB).mono nofun,λQ E g=>⟨a,_,rfl,h,⟨n,t,rfl⟩,hb,λv H' s d=>g v H' ⟨s,d⟩⟩⟩
  |note n ps=>
   obtain⟨dx,l,e,_⟩:=id h;exact⟨_,dx,_,_,e,rfl,(bh (P:=P) (w:=w) (mg:=mg) (base:=base) L.g19.cls L.g50 (λ_ _ _ _ _ _=>b1 λ_=>rfl) λf fd F=>jg (R:=R) (fB:=fB) (ok:=ok) F TB Dc).mono nofun,λQ E g=>⟨a,_,rfl,h,⟨n,ps,rfl⟩,hb,λv H' s d=>g v H' ⟨s,d⟩⟩⟩
 have MT:∀n:Nat,MV P w K mg base (40+n) "told" (BAt c n) (OkB n) (tellsB (dB n)):=λn=>by
  induction n with
  |zero=>exact TS (λ_ _ (z:Empty)=>nomatch z) (λz=>nomatch z) (λz=>nomatch z) 39 (λ_ _ _ z=>nomatch z) ∅ (λz=>nomatch z)
  |succ n ih=>exact TS (BAt c n) (dB n) (OkB n) (40+n) (aI n) nofun ih
 have Dk:Def P w K mg base 1 "takes_next" p6 spTakes:=ae X G t.g57 (λ_ _ _ _ _ _=>b2 λ_ _=>rfl) λf fd F=>sq F TI;have DQ:Def P w K mg base 2 "freed" ["text"] spFreed:=ae X G t.z57 (λ_ _ _ _ _ _=>b1 λ_=>rfl) λf fd F=>su F TI Dk;have DU:Def P w K mg base 2 "closings_of" ["text"] spClosings:=ae X G t.q57 (λ_ _ _ _ _ _=>b1 λ_=>rfl) λf fd F=>lu F TI Dk;have DR:Def P w K mg base 3 "code_at" p6 (spCodeAt cp):=ae X G t.u58 (λ_ _ _ _ _ _=>b2 λ_ _=>rfl) λf fd F=>pP F TI DN;have DS:Def P w K mg base 3 "mark_at" p6 (spMarkAt cp):=ae X G t.g58 (λ_ _ _ _ _ _=>b2 λ_ _=>rfl) λf fd F=>pQ F TI DO Dg Dj;have DT:Def P w K mg base 3 "link_at" p24 (spLinkAt cp):=ae X G t.z58 (λ_ _ _ _ _ _=>b3 λ_ _ _=>rfl) λf fd F=>pR F TI DP DQ Dg Dj;have DV:Def P w K mg base 4 "piece_at" p25 (spPieceAt cp):=ae X G t.q58 (λ_ _ _ _ _ _=>b3 λ_ _ _=>rfl) λf fd F=>nL F TI Dk DR DS DT;have DX:Def P w K mg base 5 "pieces_of" ["text"] (spPieces cp):=ae X G t.u59 (λ_ _ _ _ _ _=>b1 λ_=>rfl) λf fd F=>pS F TI DU DV;have DB:Def P w K mg base 3 "merged" ["pieces"] (spMerged cp):=ae X G t.g59 (λ_ _ _ _ _ _=>b1 λ_=>rfl) λf fd F=>pT F TI DD;have DY:Def P w K mg base 4 "with_strong" ["pieces"] (spStrongs cp):=ae X G t.z59 (λ_ _ _ _ _ _=>b1 λ_=>rfl) λf fd F=>nM F TI DW DB;have Db:Def P w K mg base 6 "parts_of" ["text"] (spPartsOf cp):=ae X G t.q59 (λ_ _ _ _ _ _=>b1 λ_=>rfl) λf fd F=>nN F TI DX DY DB;have Ds:Def P w K mg base 5 "is_empty" ["row"] spEmpty:=ae X G t.z60 (λ_ _ _ _ _ _=>b1 λ_=>rfl) λf fd F=>sC F Dh;have Da:Def P w K mg base 5 "sort_at" p5 (spSortAt K):=ae X G t.q60 (λ_ _ _ _ _ _=>b3 λ_ _ _=>rfl) λf fd F=>qg F TD Dh Df;have Dd:Def P w K mg base 6 "further_words" p5 spFurther:=ae X G t.u61 (λ_ _ _ _ _ _=>b3 λ_ _ _=>rfl) λf fd F=>nU F TD Da;have Dm:Def P w K mg base 7 "cells_of" p26 (spCellsOf c):=ae X G t.z61 (λ_ _ _ _ _ _=>b2 λ_ _=>rfl) λf fd F=>nX F TD Db;have Yt:Def P w K mg base 6 "entries_from" p8 spNo:=ae X G t.u13 (λ_ _ _ _ _ _=>b3 λ_ _ _=>rfl) λf fd F=>xG;have E0:Def P w K mg base 7 "entries_from" p8 (spEnt c 0):=ae X G t.u13 (λ_ _ _ _ _ _=>b3 λ_ _ _=>rfl) λf fd F=>gL (k:=6) (n:=0) ∅ ∅ (λj e=>nomatch e) F TD Yt Db Dl;have E1:Def P w K mg base 8 "entries_from" p8 (spEnt c 1):=ae X G t.u13 (λ_ _ _ _ _ _=>b3 λ_ _ _=>rfl) λf fd F=>gL (k:=7) (n:=1) ∅ ∅ (λj e _ _ _ _ h=>by cases e;exact h) F TD E0 Db Dl;have E2:Def P w K mg base 9 "entries_from" p8 (spEnt c 2):=ae X G t.u13 (λ_ _ _ _ _ _=>b3 λ_ _ _=>rfl) λf fd F=>gL (k:=8) (n:=2) ∅ ∅ (λj e _ _ _ _ h=>by cases e;exact h) F TD E1 Db Dl;have E3:Def P w K mg base 10 "entries_from" p8 (spEnt c 3):=ae X G t.u13 (λ_ _ _ _ _ _=>b3 λ_ _ _=>rfl) λf fd F=>gL (k:=9) (n:=3) ∅ ∅ (λj e _ _ _ _ h=>by cases e;exact h) F TD E2 Db Dl;have E4:Def P w K mg base 11 "entries_from" p8 (spEnt c 4):=ae X G t.u13 (λ_ _ _ _ _ _=>b3 λ_ _ _=>rfl) λf fd F=>gL (k:=10) (n:=4) ∅ ∅ (λj e _ _ _ _ h=>by cases e;exact h) F TD E3 Db Dl;have E5:Def P w K mg base 12 "entries_from" p8 (spEnt c 5):=ae X G t.u13 (λ_ _ _ _ _ _=>b3 λ_ _ _=>rfl) λf fd F=>gL (k:=11) (n:=5) ∅ ∅ (λj e _ _ _ _ h=>by cases e;exact h) F TD E4 Db Dl;have E6:Def P w K mg base 13 "entries_from" p8 (spEnt c 6):=ae X G t.u13 (λ_ _ _ _ _ _=>b3 λ_ _ _=>rfl) λf fd F=>gL (k:=12) (n:=6) ∅ ∅ (λj e _ _ _ _ h=>by cases e;exact h) F TD E5 Db Dl;have Dt:Def P w K mg base 1 "leveled" ["items"] spLvl:=ae X G t.g61 (λ_ _ _ _ _ _=>b1 λ_=>rfl) λf fd F=>xn F TD;have N0:Def P w K mg base 7 "note_at" p5 (spNote c RE):=ae X G t.q20 (λ_ _ _ _ _ _=>b3 λ_ _ _=>rfl) λf fd F=>gH ma F TD Da Dd Db Dq;have Li0:Def P w K mg base 5 "literal_at" p12 (spLitA c RE):=ae X G t.u21 (λ_ _ _ _ _ _=>b2 λ_ _=>rfl) λf fd F=>gI ma F TD Dh Dr;have To0:Def P w K mg base 8 "table_of" ["lines"] (spTblOf c RE):=ae X G t.u22 (λ_ _ _ _ _ _=>b1 λ_=>rfl) λf fd F=>fb F TD Dw Dm Do;have Ta0:Def P w K mg base 9 "table_at" p5 (spTableA c RE):=ae X G t.g22 (λ_ _ _ _ _ _=>b3 λ_ _ _=>rfl) λf fd F=>cY ma F TD Da To0;have Ls0:Def P w K mg base 14 "list_at" p5 (spListA c RE):=ae X G t.q21 (λ_ _ _ _ _ _=>b3 λ_ _ _=>rfl) λf fd F=>eV (k:=13) ∅ ma F TD Da Dd Dt E6 Dv;have Pa0:Def P w K mg base 7 "para_at" p5 (spPara c RE):=ae X G t.z20 (λ_ _ _ _ _ _=>b3 λ_ _ _=>rfl) λf fd F=>gG ma F TD Da Db Dp;have Q0:Def P w K mg base 20 "quote_at" p5 spNo:=ae X G t.g21 (λ_ _ _ _ _ _=>b3 λ_ _ _=>rfl) λf fd F=>xG;have LB0:∀f fd,Fun K "block_at" "block_at" kD f fd->FnOk P w K mg base CX0 21 f fd p5 (spBlock c RE (rd 0) 4):=λf fd F=>gO (k:=20) (d:=4) (inn:=λ_=>([]:List Empty)) ∅ ma F TD Da Db Dx Dy N0 Li0 Q0 (λh=>absurd h ∅) Ta0 (gU Ls0) Pa0;have Bk0:Def P w K mg base 21 "block_at" p5 (spBlock c RE (rd 0) 4):=ae X G t.z22 (λ_ _ _ _ _ _=>b3 λ_ _ _=>rfl) λf fd F=>LB0 f fd F;have LS0:∀f fd,Fun K "blocks_of" "blocks_of" kC f fd->FnOk P w K mg base CX0 22 f fd p7 (spBlks (BAt c 0) (rd 0) 4):=λf fd F=>gJ (k:=21) (d:=4) (rdb:=rd 0) ∅ ma (λ_ _ h=>gP (n:=0) h) F TD Ds Bk0;have Bs0:Def P w K mg base 22 "blocks_of" p7 (spBlks (BAt c 0) (rd 0) 4):=ae X G t.z21 (λ_ _ _ _ _ _=>b2 λ_ _=>rfl) λf fd F=>LS0 f fd F;have N1:Def P w K mg base 7 "note_at" p5 (spNote c (BAt c 0)):=ae X G t.q20 (λ_ _ _ _ _ _=>b3 λ_ _ _=>rfl) λf fd F=>gH (aI 0) F TD Da Dd Db Dq;have Li1:Def P w K mg base 5 "literal_at" p12 (spLitA c (BAt c 0)):=ae X G t.u21 (λ_ _ _ _ _ _=>b2 λ_ _=>rfl) λf fd F=>gI (aI 0) F TD Dh Dr;have To1:Def P w K mg base 8 "table_of" ["lines"] (spTblOf c (BAt c 0)):=ae X G t.u22 (λ_ _ _ _ _ _=>b1 λ_=>rfl) λf fd F=>fb F TD Dw Dm Do;have Ta1:Def P w K mg base 9 "table_at" p5 (spTableA c (BAt c 0)):=ae X G t.g22 (λ_ _ _ _ _ _=>b3 λ_ _ _=>rfl) λf fd F=>cY (aI 0) F TD Da To1;have Ls1:Def P w K mg base 14 "list_at" p5 (spListA c (BAt c 0)):=ae X G t.q21 (λ_ _ _ _ _ _=>b3 λ_ _ _=>rfl) λf fd F=>eV (k:=13) ∅ (aI 0) F TD Da Dd Dt E6 Dv;have Pa1:Def P w K mg base 7 "para_at" p5 (spPara c (BAt c 0)):=ae X G t.z20 (λ_ _ _ _ _ _=>b3 λ_ _ _=>rfl) λf fd F=>gG (aI 0) F TD Da Db Dp;have Q1:Def P w K mg base 23 "quote_at" p5 (eR c (BAt c 0) (rd 0) 3):=ae X G t.g21 (λ_ _ _ _ _ _=>b3 λ_ _ _=>rfl) λf fd F=>eU (k:=22) (d:=3) ∅ (aI 0) F TD Da Bs0 DC;have LB1:∀f fd,Fun K "block_at" "block_at" kD f fd->FnOk P w K mg base CX0 24 f fd p5 (spBlock c (BAt c 0) (rd 1) 3):=λf fd F=>gO (k:=23) (d:=3) (inn:=λxs=>(blkR (rd 0) xs.length 0 xs).map λx:Bl 0×Nat×Nat=>x.1) ∅ (aI 0) F TD Da Db Dx Dy N1 Li1 Q1 (λ_ _ _ _ _ h=>h) Ta1 (gU Ls1) Pa1;have Bk1:Def P w K mg base 24 "block_at" p5 (spBlock c (BAt c 0) (rd 1) 3):=ae X G t.z22 (λ_ _ _ _ _ _=>b3 λ_ _ _=>rfl) λf fd F=>LB1 f fd F;have LS1:∀f fd,Fun K "blocks_of" "blocks_of" kC f fd->FnOk P w K mg base CX0 25 f fd p7 (spBlks (BAt c 1) (rd 1) 3):=λf fd F=>gJ (k:=24) (d:=3) (rdb:=rd 1) ∅ (aI 0) (λ_ _ h=>gP (n:=1) h) F TD Ds Bk1;have Bs1:Def P w K mg base 25 "blocks_of" p7 (spBlks (BAt c 1) (rd 1) 3):=ae X G t.z21 (λ_ _ _ _ _ _=>b2 λ_ _=>rfl) λf fd F=>LS1 f fd F;have N2:Def P w K mg base 7 "note_at" p5 (spNote c (BAt c 1)):=ae X G t.q20 (λ_ _ _ _ _ _=>b3 λ_ _ _=>rfl) λf fd F=>gH (aI 1) F TD Da Dd Db Dq;have Li2:Def P w K mg base 5 "literal_at" p12 (spLitA c (BAt c 1)):=ae X G t.u21 (λ_ _ _ _ _ _=>b2 λ_ _=>rfl) λf fd F=>gI (aI 1) F TD Dh Dr;have To2:Def P w K mg base 8 "table_of" ["lines"] (spTblOf c (BAt c 1)):=ae X G t.u22 (λ_ _ _ _ _ _=>b1 λ_=>rfl) λf fd F=>fb F TD Dw Dm Do;have Ta2:Def P w K mg base 9 "table_at" p5 (spTableA c (BAt c 1)):=ae X G t.g22 (λ_ _ _ _ _ _=>b3 λ_ _ _=>rfl) λf fd F=>cY (aI 1) F TD Da To2;have Ls2:Def P w K mg base 14 "list_at" p5 (spListA c (BAt c 1)):=ae X G t.q21 (λ_ _ _ _ _ _=>b3 λ_ _ _=>rfl) λf fd F=>eV (k:=13) ∅ (aI 1) F TD Da Dd Dt E6 Dv;have Pa2:Def P w K mg base 7 "para_at" p5 (spPara c (BAt c 1)):=ae X G t.z20 (λ_ _ _ _ _ _=>b3 λ_ _ _=>rfl) λf fd F=>gG (aI 1) F TD Da Db Dp;have Q2:Def P w K mg base 26 "quote_at" p5 (eR c (BAt c 1) (rd 1) 2):=ae X G t.g21 (λ_ _ _ _ _ _=>b3 λ_ _ _=>rfl) λf fd F=>eU (k:=25) (d:=2) ∅ (aI 1) F TD Da Bs1 DC;have LB2:∀f fd,Fun K "block_at" "block_at" kD f fd->FnOk P w K mg base CX0 27 f fd p5 (spBlock c (BAt c 1) (rd 2) 2):=λf fd F=>gO (k:=26) (d:=2) (inn:=λxs=>(blkR (rd 1) xs.length 0 xs).map λx:Bl 1×Nat×Nat=>x.1) ∅ (aI 1) F TD Da Db Dx Dy N2 Li2 Q2 (λ_ _ _ _ _ h=>h) Ta2 (gU Ls2) Pa2;have Bk2:Def P w K mg base 27 "block_at" p5 (spBlock c (BAt c 1) (rd 2) 2):=ae X G t.z22 (λ_ _ _ _ _ _=>b3 λ_ _ _=>rfl) λf fd F=>LB2 f fd F;have LS2:∀f fd,Fun K "blocks_of" "blocks_of" kC f fd->FnOk P w K mg base CX0 28 f fd p7 (spBlks (BAt c 2) (rd 2) 2):=λf fd F=>gJ (k:=27) (d:=2) (rdb:=rd 2) ∅ (aI 1) (λ_ _ h=>gP (n:=2) h) F TD Ds Bk2;have Bs2:Def P w K mg base 28 "blocks_of" p7 (spBlks (BAt c 2) (rd 2) 2):=ae X G t.z21 (λ_ _ _ _ _ _=>b2 λ_ _=>rfl) λf fd F=>LS2 f fd F;have N3:Def P w K mg base 7 "note_at" p5 (spNote c (BAt c 2)):=ae X G t.q20 (λ_ _ _ _ _ _=>b3 λ_ _ _=>rfl) λf fd F=>gH (aI 2) F TD Da Dd Db Dq;have Li3:Def P w K mg base 5 "literal_at" p12 (spLitA c (BAt c 2)):=ae X G t.u21 (λ_ _ _ _ _ _=>b2 λ_ _=>rfl) λf fd F=>gI (aI 2) F TD Dh Dr;have To3:Def P w K mg base 8 "table_of" ["lines"] (spTblOf c (BAt c 2)):=ae X G t.u22 (λ_ _ _ _ _ _=>b1 λ_=>rfl) λf fd F=>fb F TD Dw Dm Do;have Ta3:Def P w K mg base 9 "table_at" p5 (spTableA c (BAt c 2)):=ae X G t.g22 (λ_ _ _ _ _ _=>b3 λ_ _ _=>rfl) λf fd F=>cY (aI 2) F TD Da To3;have Ls3:Def P w K mg base 14 "list_at" p5 (spListA c (BAt c 2)):=ae X G t.q21 (λ_ _ _ _ _ _=>b3 λ_ _ _=>rfl) λf fd F=>eV (k:=13) ∅ (aI 2) F TD Da Dd Dt E6 Dv;have Pa3:Def P w K mg base 7 "para_at" p5 (spPara c (BAt c 2)):=ae X G t.z20 (λ_ _ _ _ _ _=>b3 λ_ _ _=>rfl) λf fd F=>gG (aI 2) F TD Da Db Dp;have Q3:Def P w K mg base 29 "quote_at" p5 (eR c (BAt c 2) (rd 2) 1):=ae X G t.g21 (λ_ _ _ _ _ _=>b3 λ_ _ _=>rfl) λf fd F=>eU (k:=28) (d:=1) ∅ (aI 2) F TD Da Bs2 DC;have LB3:∀f fd,Fun K "block_at" "block_at" kD f fd->FnOk P w K mg base CX0 30 f fd p5 (spBlock c (BAt c 2) (rd 3) 1):=λf fd F=>gO (k:=29) (d:=1) (inn:=λxs=>(blkR (rd 2) xs.length 0 xs).map λx:Bl 2×Nat×Nat=>x.1) ∅ (aI 2) F TD Da Db Dx Dy N3 Li3 Q3 (λ_ _ _ _ _ h=>h) Ta3 (gU Ls3) Pa3;have Bk3:Def P w K mg base 30 "block_at" p5 (spBlock c (BAt c 2) (rd 3) 1):=ae X G t.z22 (λ_ _ _ _ _ _=>b3 λ_ _ _=>rfl) λf fd F=>LB3 f fd F;have LS3:∀f fd,Fun K "blocks_of" "blocks_of" kC f fd->FnOk P w K mg base CX0 31 f fd p7 (spBlks (BAt c 3) (rd 3) 1):=λf fd F=>gJ (k:=30) (d:=1) (rdb:=rd 3) ∅ (aI 2) (λ_ _ h=>gP (n:=3) h) F TD Ds Bk3;have Bs3:Def P w K mg base 31 "blocks_of" p7 (spBlks (BAt c 3) (rd 3) 1):=ae X G t.z21 (λ_ _ _ _ _ _=>b2 λ_ _=>rfl) λf fd F=>LS3 f fd F;have N4:Def P w K mg base 7 "note_at" p5 (spNote c (BAt c 3)):=ae X G t.q20 (λ_ _ _ _ _ _=>b3 λ_ _ _=>rfl) λf fd F=>gH (aI 3) F TD Da Dd Db Dq;have Li4:Def P w K mg base 5 "literal_at" p12 (spLitA c (BAt c 3)):=ae X G t.u21 (λ_ _ _ _ _ _=>b2 λ_ _=>rfl) λf fd F=>gI (aI 3) F TD Dh Dr;have To4:Def P w K mg base 8 "table_of" ["lines"] (spTblOf c (BAt c 3)):=ae X G t.u22 (λ_ _ _ _ _ _=>b1 λ_=>rfl) λf fd F=>fb F TD Dw Dm Do;have Ta4:Def P w K mg base 9 "table_at" p5 (spTableA c (BAt c 3)):=ae X G t.g22 (λ_ _ _ _ _ _=>b3 λ_ _ _=>rfl) λf fd F=>cY (aI 3) F TD Da To4;have Ls4:Def P w K mg base 14 "list_at" p5 (spListA c (BAt c 3)):=ae X G t.q21 (λ_ _ _ _ _ _=>b3 λ_ _ _=>rfl) λf fd F=>eV (k:=13) ∅ (aI 3) F TD Da Dd Dt E6 Dv;have Pa4:Def P w K mg base 7 "para_at" p5 (spPara c (BAt c 3)):=ae X G t.z20 (λ_ _ _ _ _ _=>b3 λ_ _ _=>rfl) λf fd F=>gG (aI 3) F TD Da Db Dp;have Q4:Def P w K mg base 32 "quote_at" p5 (eR c (BAt c 3) (rd 3) 0):=ae X G t.g21 (λ_ _ _ _ _ _=>b3 λ_ _ _=>rfl) λf fd F=>eU (k:=31) (d:=0) ∅ (aI 3) F TD Da Bs3 DC;have LB4:∀f fd,Fun K "block_at" "block_at" kD f fd->FnOk P w K mg base CX0 33 f fd p5 (spBlock c (BAt c 3) (rd 4) 0):=λf fd F=>gO (k:=32) (d:=0) (inn:=λxs=>(blkR (rd 3) xs.length 0 xs).map λx:Bl 3×Nat×Nat=>x.1) ∅ (aI 3) F TD Da Db Dx Dy N4 Li4 Q4 (λ_ _ _ _ _ h=>h) Ta4 (gU Ls4) Pa4;have Bk4:Def P w K mg base 33 "block_at" p5 (spBlock c (BAt c 3) (rd 4) 0):=ae X G t.z22 (λ_ _ _ _ _ _=>b3 λ_ _ _=>rfl) λf fd F=>LB4 f fd F;have LS4:∀f fd,Fun K "blocks_of" "blocks_of" kC f fd->FnOk P w K mg base CX0 34 f fd p7 (spBlks (BAt c 4) (rd 4) 0):=λf fd F=>gJ (k:=33) (d:=0) (rdb:=rd 4) ∅ (aI 3) (λ_ _ h=>gP (n:=4) h) F TD Ds Bk4;have Bs4:Def P w K mg base 34 "blocks_of" p7 (spBlks (BAt c 4) (rd 4) 0):=ae X G t.z21 (λ_ _ _ _ _ _=>b2 λ_ _=>rfl) λf fd F=>LS4 f fd F;have Yd:Def P w K mg base 1 "need_text" ["thing"] spNeedT:=ae X G t.q61 (λ_ _ _ _ _ _=>b1 λ_=>rfl) λf fd F=>sI F TD;have Ye:Def P w K mg base 1 "rows_of" ["text"] spRowsOf:=ae X G t.u62 (λ_ _ _ _ _ _=>b1 λ_=>rfl) λf fd F=>qt F;have Yf:New P w K mg base 1 "Document" z.Document p11 (spInitL z.Document "blocks"):=bZ z27 L.g20.mkc L.g20.kc L.g44 (λ_ _ _ _ _ _=>b2 λ_ _=>rfl) λf fd F=>nY F TF;have V_Doc:MethV P w K mg base 45 z.Document "told" ["self"] (spDocTold z.Document (BAt c 4) (dB 4) (OkB 4)):=bh L.g20.cls L.z44 (λ_ _ _ _ _ _=>b1 λ_=>rfl) λf fd F=>n0 F TF (MT 4) (aI 4);have DG:Def P w K mg base 35 "read" ["text"] (spReadT z.Document (BAt c 4) (rd 4)):=ae X G t.g62 (λ_ _ _ _ _ _=>b1 λ_=>rfl) λf fd F=>sJ (k:=34) ∅ (aI 4) F TF Yd Ye Bs4 Yf;have De:Def P w K mg base 1 "_law_cell_at" p13 (spCellAt K):=ae X G t.f__law_cell_at (λ_ _ _ _ _ _=>b2 λ_ _=>rfl) λf fd F=>qI F TX;have Di:Def P w K mg base 1 "_law_mixed" p15 spMixed:=ae X G t.f__law_mixed (λ_ _ _ _ _ _=>b2 λ_ _=>rfl) λf fd F=>sP F;have TL:TxL mg:={ TX with u11:=u11,z11:=z11 };have Yh:Def P w K mg base 2 "_law_items" ["_law_script"] (spItems K):=ae X G t.f__law_items (λ_ _ _ _ _ _=>b1 λ_=>rfl) λf fd F=>sV F TL De Di;have Yg:Def P w K mg base 1 "_law_cells" ["_law_text"] spLCells:=ae X G t.f__law_cells (λ_ _ _ _ _ _=>b1 λ_=>rfl) λf fd F=>qR F;have Yi:Def P w K mg base 2 "_law_table" ["_law_script"] (spLTable K):=ae X G t.f__law_table (λ_ _ _ _ _ _=>b1 λ_=>rfl) λf fd F=>qT F TL De Di Yg;have Yj:Def P w K mg base 2 "_law_fences" ["_law_script"] (spFences K):=ae X G t.f__law_fences (λ_ _ _ _ _ _=>b1 λ_=>rfl) λf fd F=>qY F TL De Di;have Yk:Def P w K mg base 1 "_law_quoted" ["_law_cell"] spQuoted:=ae X G t.f__law_quoted (λ_ _ _ _ _ _=>b1 λ_=>rfl) λf fd F=>q8 F TL;exact sY (k:=45) ∅ (ml (st:=fG) l cc kp) TL De Yh Yi Yj Yk (gU Bk4) (gU DG) (vL (MT 4) ∅) V_Doc
end K15
open PySem PySem.W PySem.W.X PySem.W.ZRun PyProof.Rows
theorem L2.true_law {c:PySem.W.ClaimW}{cl:PySem.Str->Option PySem.Addr}{mean:PySem.ExcName->Option PySem.Value}{args:List PySem.W.WData}{s₁ s':PySem.Shared}(hr:∀cls:PySem.ExcName,c.raises args cls=false)(hp:c.post args (.bool true) args=true)
  (h:OldK s₁.heap s'.heap/\s'.os=s₁.os/\PyProof.Rows.AllBare s'.gens):PySem.W.GoodWG c cl mean args s₁ (Except.ok (PySem.Flow.ret (.bool true))) s':=
 ⟨.inl ⟨_, .bool true,[],rfl,hr, .bool _,hp,λ_=>⟨.nil,λ_ z=>nomatch z⟩⟩,h⟩
set_option maxRecDepth 100000 in
set_option maxHeartbeats 0 in
theorem PySem.Challenge.cw_lightmark_k15_levels_rules_and_fences_holds : PySem.Challenge.rw_lightmark_k15_levels_rules_and_fences.Holds := by
 refine hd15.2 ⟨?_⟩
 conv=>whnf
 k_fill
 intro w s₀ s₁ mg mb G y fa o pm cd doc dV kV ho hd hcd hD hmg hg args vals as L hpre hlay hrd hwl hlo;have y:=Wy (Nat.le_of_ble_eq_true rfl) (Nat.le_of_ble_eq_true rfl) y
 z_open y L KX ZH ZN ZT
 refine Ground.open G ?_;intro T B D TE TW
 wrow_args hpre hlay hrd hwl hlo
 rename_i ns _ _ _ _ _ _ _ a vs _ hL _ _ _ hI _ w6 _;have htk:=script_toks L ZT;have hobj:=script_obj L hL;have t:K15.Top (L2.KOf KX):=by
  dsimp only[L2.KOf];constructor
  case u52|q53|u54|g54|z54|q54|u55|g55|z55|q55|u56|g56|z56|u57|g57|z57|q57|u58|g58|z58|q58|u59|g59|z59|q59|u60|g52|g60|z60|q60|u61|z20|q20|u21|g21|z21|u13|g61|q21|z61|u22|g22|z22|q61|u62|g62|f__law_cell_at|f__law_mixed|f__law_items|f__law_cells|f__law_table|f__law_fences|f__law_quoted|z62=>(refine' K15.fnIn_mk ?xa ?xl ?xc ?xk;(case xa|xl|xc|xk=>k_is))
  case g10|u10|q11|g12|g11|g13|q10|q15|z13|q22|u11|z11=>k_is
  case z12|u12|q12|u16|u14|z14|g15|z15=>(refine' K15.cst_mk ?xe ?xf;(case xe=>k_is);(case xf=>exact⟨_,rfl⟩))
  case cl=>
   refine' K15.cls_mk ?C1 ?C2 ?C3 ?C4 ?C5 ?C6 ?C7 ?C8 ?C9 ?C10 ?C11 ?C12 ?C13 ?C14 ?C15 ?C16 ?X1 ?P1 ?N1 ?P2 ?N2 ?P3 ?N3 ?P4 ?N4 ?N5 ?P5 ?N6 ?P6 ?N7 ?N8 ?P7 ?N9 ?P8 ?N10 ?P9 ?N11 ?P10 ?N12 ?N13 ?P11 ?N14 ?N15 ?P12 ?N16 ?N17 ?N18 ?P13 ?N19 ?P14 ?N20 ?N21 ?N22 ?P15 ?N23 ?J1 ?J2 ?J3 ?J4 ?J5 ?J6 ?J7 ?J8 ?J9 ?J10 ?M1 ?M2 ?M3 ?M4 ?M5 ?M6 ?M7 ?M8 ?M9 ?M10 ?M11 ?M12 ?M13 ?M14 ?M15 ?M16 ?M17 ?M18 ?M19 ?M20 ?M21 ?M22 ?M23 ?M24 ?M25 ?M26 ?M27 ?M28 ?M29 ?M30
   case C1|C2|C3|C4|C5|C6|C7|C8|C9|C10|C11|C12|C13|C14|C15|C16=>k_is
   case X1=>(refine' K15.ownx_VE ?yq;(case yq=>k_exc))
   case P1|P2|P3|P4|P5|P6|P7|P8|P9|P10|P11|P12|P13|P14|P15=>(refine' ⟨?z1,?z2,?z3,?z4,?z5,?z6,?z7,?z8,?z9,?z10⟩;(case z1|z2|z3|z4|z5|z6|z7|z8|z9|z10=>k_is))
   case N1|N2|N3|N4|N5|N6|N7|N8|N9|N10|N11|N12|N13|N14|N15|N16|N17|N18|N19|N20|N21|N22|N23=>k_is
   case J1|J2|J3|J4|J5|J6|J7|J8|J9|J10=>kit_is
   case M1|M2|M3|M4|M5|M6|M7|M8|M9|M10|M11|M12|M13|M14|M15|M16|M17|M18|M19|M20|M21|M22|M23|M24|M25|M26|M27|M28|M29|M30=>(refine' K15.mIn_mk ?xa ?xi ?xl ?xc ?xk;(case xa|xi|xl|xc|xk=>k_is))
 obtain⟨fd,hb,hF⟩:=K15.all_law (P:=PySem.Challenge.rw_lightmark_k15_levels_rules_and_fences.row.prog) (w:=w) KX T.g hmg t;have hbits:∀n∈ns,intBits n<=1048576:=λn hn=>PySem.intBits_le_of_item hn (by assumption);refine wpAny_call (codeAny_mono (L2.law_call KX T.g T.b T.builtins T.nolimit hg (l29 ∅ htk) hobj hI (Lw.big nofun) ⟨rfl,by decide,by decide⟩ hF hb (λH hO hS=>⟨a,ns,rfl,hS,λ_ _=>rfl⟩) λH e s' z=>z) λr s' q=>?_);obtain⟨rfl,q⟩:=q;exact L2.true_law (λ_=>rfl) (by with_unfolding_all rfl) q
