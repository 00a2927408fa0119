import PyProof.Rows.All
import KE.KItem
import KE.KTryMore
import KE.RegKIsAll
import KE.KNest
import KE.KFromBytes
import OpenK.ZGo
import KE.IntBitsLaws
import Wide.FinOn
import PySem.Challenge.RW_lightmark_k11_blocks_written
set_option Elab.async false
set_option linter.all false
noncomputable section
namespace PySem.W.Fast
def tw14989178090729646907:=0
def tw16567892367237994738:=0
def tw7167886174921857474:=0
def tw8237467531307687350:=0
def tw13260309077168212354:=0
def tw663183742185793390:=0
def tw5308508372885014318:=0
def tw8844337764665410603:=0
def tw8904701480091344406:=0
def tw13662063919597818262:=0
def tw17475051080813898393:=0
def tw9177526516558754542:=0
def tw313475077418528375:=0
def tw14240226233855199617:=0
def tw4584847694270126895:=0
def tw16397216557473212590:=0
def tw8739822657241143687:=0
def tw8771790368508492090:=0
def tw1269234460664061670:=0
def tw5997536229402632995:=0
def tw14547028794154842997:=0
def tw13965244434152197770:=0
def tw2342350883891780259:=0
def tw6424004783360870652:=0
def tw14100787562357260635:=0
def tw11514843385545768866:=0
def tw12370900603175239959:=0
def tw8937574040465358938:=0
def tw4748836750406154395:=0
def tw14998571863101918872:=0
def tw5630893074795735404:=0
def tw11395213175285215057:=0
def tw16173596075942709175:=0
def tw17703327673210942137:=0
def tw1772263597101203417:=0
def tw16872832836651877931:=0
def tw3603794344599137392:=0
def tw9676065558017229192:=0
def tw16253544407224674159:=0
def tw5651041572838427684:=0
def tw815283371695771728:=0
def tw3735957910303160577:=0
def tw8944002084104876005:=0
def tw7408678186012895723:=0
def tw13140588335613058926:=0
def tw14666723253319684672:=0
def tw4793148172950455280:=0
def tw8994705290242373338:=0
def tw3244992326329372537:=0
def tw9382807916657864274:=0
def tw15203278755522580549:=0
def tw4941319009152173583:=0
def tw6165495595907804362:=0
def tw8373487483107038938:=0
def tw4819074379018415216:=0
def tw5165439599787645840:=0
def tw1470818949573063474:=0
def tw9675576841230249591:=0
def tw12673136841148175855:=0
def tw9926724638441315255:=0
def tw16137926137815351120:=0
def tw18325166410895464779:=0
def tw17251823366741459433:=0
def tw4798924925942595059:=0
def tw11194491489916846814:=0
def tw9752141591907502371:=0
def tw9626636285158609659:=0
def tw6133087876793722428:=0
def tw6062136864438531166:=0
def tw5142767956289986441:=0
def tw12836357354029153329:=0
def tw8017550269043460349:=0
def tw13471550258954963718:=0
def tw11414727525059487579:=0
def tw8173301615792182102:=0
def tw9698813636491677452:=0
def tw66360233849763549:=0
def tw14936094452455329502:=0
def tw1832127715770462828:=0
def tw15311376594316703266:=0
def tw3777353371601969015:=0
def tw11823953867150057713:=0
def tw14434740808670423286:=0
def tw6753900243395071183:=0
def tw1699002201542419622:=0
def tw1623811097300120055:=0
def tw2093729722288989667:=0
def tw4639339991646025510:=0
def tw7932538628599638686:=0
def tw16286419099217996622:=0
def tw9156744624922615310:=0
def tw16812454756369091142:=0
def tw10256411801671009852:=0
def tw9784300643267904276:=0
def tw12773936170438666306:=0
def tw17370692717639804431:=0
def tw2980132299265269847:=0
def tw11292727503278191701:=0
def tw856300203697867376:=0
def tw2892129735154521968:=0
def tw9894125853220776035:=0
def tw2771499785599353831:=0
def tw6400695468084940099:=0
def tw16581109214637887126:=0
def tw16083494731140780641:=0
def tw14280395134436553865:=0
def tw14048064491339090291:=0
def tw15762710370649919512:=0
def tw15389927099629990562:=0
def tw6911040731041204261:=0
def tw289492352892116174:=0
def tw9421093752570566708:=0
def tw3040245947424977316:=0
def tw13180793047601330816:=0
def tw9297252014439590655:=0
def tw8643259145672653638:=0
def tw17653826823607136782:=0
def tw15150327250042368823:=0
def tw1184067910038860761:=0
def tw810213466832827453:=0
def tw5426961030051299330:=0
def tw1140364751499121633:=0
def tw13161751331906153140:=0
def tw4942017542979939493:=0
def tw6625106521535328597:=0
def tw14720232876828391168:=0
def tw10802841681125672356:=0
def tw6268536608679676681:=0
def tw15832405715849428958:=0
def tw14248717490177867744:=0
def tw10610945382597601721:=0
def tw5047911068850167612:=0
def tw11865647731870469020:=0
def tw6116850552889143013:=0
def tw11958630533131897166:=0
def tw3345008803716512080:=0
def tw6878162784791915531:=0
def tw5232231582430892299:=0
def tw16396460353781643888:=0
def tw9475521074833965755:=0
def tw9006573548856831448:=0
def tw3222703117133101359:=0
def tw8192393291377764083:=0
def tw1859823754193025067:=0
def tw7040441483236639853:=0
def tw5950763704044137042:=0
def tw3917714730255431376:=0
def tw613060334592237401:=0
def tw9374097792557845087:=0
def tw12177195334023754946:=0
def tw13840184653288316311:=0
def tw16228012641021934805:=0
def tw5536474229378016340:=0
def tw12990970325551445829:=0
def tw5296870196397012892:=0
def tw13395617437206048844:=0
def tw4810103411252771218:=0
def tw4407367570690010842:=0
def tw6222955511632938600:=0
def tw4895725059564879857:=0
def tw1190381339777444538:=0
def tw16748277997297530169:=0
def tw582078103735980041:=0
def tw3672947291077825930:=0
def tw12916919866493005078:=0
def tw310566083210451492:=0
def tw9940196115592181474:=0
def tw15526976646350156124:=0
def tw7883166011664257346:=0
def tw9415488914678904298:=0
def tw15772381409232293662:=0
def tw5268787429784636426:=0
def tw17402775823847698433:=0
def tw7606352119523602930:=0
def tw4964633546583555531:=0
def tw702324811569740496:=0
def tw13064415884206857604:=0
def tw15854712584406083408:=0
def tw6842707108599255310:=0
def tw607738840098795944:=0
def tw17027500551062606264:=0
def tw16509632701826885338:=0
def tw3068706943698920551:=0
def tw1897520640761568965:=0
def tw8477443079400021125:=0
def tw5825934626307358989:=0
def tw508606557096855843:=0
def tw15070274882696670328:=0
def tw8571960721747910884:=0
def tw15492092867427105155:=0
def tw2986760247534182758:=0
def tw8228566229071507065:=0
def tw8165462109529400013:=0
def tw18077922061666913713:=0
def tw14363160008892478048:=0
def tw14571991296410186452:=0
def tw6444865462025433899:=0
def tw134242144250702642:=0
def tw8714361347745273874:=0
def tw3443217034631386972:=0
def tw18068890712482742291:=0
def tw96957160827204924:=0
def tw4746851495761515503:=0
def tw7875842032329549035:=0
def tw17233020611634680031:=0
def tw11995379900069485037:=0
def tw15189570996329616164:=0
def tw12322899598779767018:=0
def tw15996771453361715551:=0
def tw111819344734248235:=0
def tw1952750214499028137:=0
def tw17435193896437849239:=0
def tw16721189061168148331:=0
def tw3812439054407579429:=0
def tw14812604977463434585:=0
def tw1903769530357121018:=0
def tw1455598299023589418:=0
def tw15618457680962192515:=0
def tw11248431905646723419:=0
def tw4595250639645262594:=0
def tw16929025801887030837:=0
def tw5339894301946013138:=0
def tw2465244373015123125:=0
def tw5017855799564689291:=0
def tw5951548055950348632:=0
def tw2272134927292230310:=0
def tw10788617816093388452:=0
def tw7475180686624059888:=0
def tw405469412573927794:=0
def tw10489053042948688387:=0
def tw9155544604902211676:=0
def tw3713610111258226704:=0
def tw2031295557212986665:=0
def tw12260881001142184105:=0
def tw12058371533974691026:=0
def tw18381379479925669690:=0
def tw4443470574553798726:=0
def tw553540115032962751:=0
def tw5066595771691121034:=0
def tw18024715065299060374:=0
def tw9770924865986589753:=0
def tw9259213389599432202:=0
def tw4209384645199034652:=0
def tw1961855812633349064:=0
def tw1738169940921713063:=0
def tw9460228985819232125:=0
def tw1011210713441679425:=0
def tw7246366073157694143:=0
def tw16208823522477251346:=0
def tw16542598622181373720:=0
def tw3668284515470979063:=0
def tw17758947217875351212:=0
def tw16790160069559883589:=0
def tw4483004876134824336:=0
def tw7653401820930374126:=0
def tw5994023170577053517:=0
def tw17973163313679411509:=0
def tw4855758535430458922:=0
def tw12758256628642586690:=0
def tw7775352702236842134:=0
def tw5269940977782898302:=0
def tw11920571351833695989:=0
def tw12220104269502523032:=0
def tw7554343378436665181:=0
def tw7074967862870898807:=0
def tw2821199761932028989:=0
def tw9943134618995128283:=0
def tw9617083675586323080:=0
def tw7211209222225375478:=0
def tw5944009831760918539:=0
def tw15214374955814632497:=0
def tw8730060547576881141:=0
def tw8913385812896593608:=0
def tw4974016778872397490:=0
def tw2774130160431951278:=0
def tw11545094873054814865:=0
def tw15036226180428959284:=0
def tw852604697897604235:=0
def tw7398635238611041218:=0
def tw7902845050691552404:=0
def tw9911329762584362351:=0
def tw13191021743484149722:=0
def tw18069880035676400818:=0
def tw16887064878492448913:=0
def tw16665488186471508802:=0
def tw18204035712833627864:=0
def tw14501927009870470044:=0
def tw2442894970594519498:=0
def tw6828118329948183289:=0
def tw9866246542053870080:=0
def tw8449643071933073082:=0
def tw14449812165253057643:=0
def tw6072585888522139474:=0
def tw3295741641600789771:=0
def tw13399377279385877907:=0
def tw1285237466220541841:=0
def tw1921169115097845651:=0
def tw1354283167676566822:=0
def tw649141569274541653:=0
def tw15950841020967135070:=0
def tw878354395529461480:=0
def tw2629426564418496079:=0
def tw17315373042152051099:=0
def tw13569512361365525287:=0
def tw9850027094280513725:=0
def tw14013149310404550134:=0
def tw15393154097845244857:=0
def tw4168345419559784228:=0
def tw14964960178310954894:=0
def tw9595283091573310963:=0
def tw4877304773105727805:=0
def tw11789722071181638928:=0
def tw9628424638441198840:=0
def tw1872577516846954551:=0
def tw17159206898866534007:=0
def tw9868134859211511282:=0
def tw11196201206043462980:=0
def tw2090275555758807336:=0
def tw14181815591451290481:=0
def tw9943850359723957100:=0
def tw12485653500862490094:=0
def tw13407788699772490839:=0
def tw7330935675081378547:=0
def tw13390271249484410040:=0
def tw7472987004689448164:=0
def tw9020132339911076959:=0
def tw17654267821977202840:=0
def tw8369316379594833586:=0
def tw12844616050962761050:=0
def tw13122409898008912754:=0
def tw4852645618223031833:=0
def tw18377295629195053410:=0
def tw17404984228593650120:=0
def tw1313523127545792477:=0
def tw5377913463617733512:=0
def tw16252976942197613086:=0
def tw2567196122668459132:=0
def tw5373299087172796754:=0
def tw4903426386597454957:=0
def tw9284502645484721771:=0
def tw3602162677671196180:=0
def tw5653544921002592121:=0
def tw15821944201712240302:=0
def tw3830205374145237258:=0
def tw15142626512403882075:=0
def tw583533905483966602:=0
def tw15062363267730173417:=0
def tw12355294995658664092:=0
def tw6449666121823039338:=0
def tw1032268014808108862:=0
def tw9822784804863763719:=0
def tw17722471072046633777:=0
def tw7919461994721701343:=0
def tw10419352490777675136:=0
def tw9804171191131459444:=0
def tw6242826257508937596:=0
def tw14847238709172929994:=0
def tw9129349111739467156:=0
def tw6736679655816026527:=0
def tw10861653933763698849:=0
def tw10105029671949706871:=0
def tw903594879794782958:=0
def tw16760317926914562147:=0
def tw11102529671130241992:=0
def tw617994895357327757:=0
def tw9183708514270326631:=0
def tw7672478432255721006:=0
def tw16442567593507954512:=0
def tw4737037952595524818:=0
def tw16912487983334711982:=0
def tw15247468314878989052:=0
def tw8691706986999518090:=0
def tw16156923078832192403:=0
def tw15753152095256453239:=0
def tw15690258166901804723:=0
def tw16298660667943764023:=0
def tw10704302504342117565:=0
def tw9694894589972670775:=0
def tw8444854755907353121:=0
def tw2601297897064528354:=0
def tw10028582996024247086:=0
def tw18324631418745731627:=0
def tw17997044861918290852:=0
def tw17667188064653407:=0
def tw16684350848213756331:=0
def tw5672010822749677675:=0
def tw5931548466875186748:=0
def tw5060407934789358089:=0
def tw3238305183992531283:=0
def tw17069775254922452970:=0
def tw16434893056050939355:=0
def tw5400519804311070499:=0
def tw3383396629807644213:=0
def tw1640967638685802467:=0
def tw11830270837362343757:=0
def tw7726090292899981810:=0
def tw7030557105901368713:=0
def tw794043362867427685:=0
def tw6937220939103800811:=0
def tw3749591604658545751:=0
def tw4557154740112500309:=0
def tw12573663412505267986:=0
def tw10843001271445453020:=0
def tw6644349511575197305:=0
def tw8283635537680916292:=0
def tw16530575085179571051:=0
def tw17672600595242877850:=0
def tw8914170289898364089:=0
def tw4163506070473287530:=0
def tw13567917757734973315:=0
def tw14913426408864121804:=0
def tw9316220154841148452:=0
def tw15044774604817446002:=0
def tw16894699034731708556:=0
def tw1163926803542810297:=0
def tw5210234690574327170:=0
def tw4366600191008703132:=0
def tw8517114128798594732:=0
def tw15445520817673705444:=0
def tw7186647234694902240:=0
def tw18380441168239020624:=0
def tw8836139851916923507:=0
def tw17462895234185112858:=0
def tw16703804311106383166:=0
def tw14982685600457142163:=0
def tw8797096670828611816:=0
def tw6681738611444303234:=0
def tw3474313226377420544:=0
def tw11254434170767340344:=0
def tw7689171096130121521:=0
def tw36104189106588115:=0
def tw2788522830443311262:=0
def tw591485262147080650:=0
def tw15069131213466899497:=0
def tw11325983825110578451:=0
def tw10784380711151424841:=0
def tw9296745441245026876:=0
def tw7238342301220062398:=0
def tw5640887197831881691:=0
def tw3933246234339535776:=0
def tw2368584109251785313:=0
def tw2361599637318269940:=0
def tw1938119152459066106:=0
def tw1709139908807322710:=0
def tw11385296010551691032:=0
def tw7152732939618761295:=0
def tw15509451777560263639:=0
def tw9957124964395089937:=0
def tw2101609165390883284:=0
def tw1747236354078175611:=0
def tw16762493858130936178:=0
def tw13825749947097642911:=0
def tw8030149647622558229:=0
def tw17999615870612241404:=0
def tw7210123024938668722:=0
def tw5973798531647994239:=0
def tw4917666230746259668:=0
def tw17302145772231634384:=0
def tw15426226946517094737:=0
def tw14022226887136994658:=0
def tw16600807120278027983:=0
def tw10629651976662605720:=0
def tw10044082523910986488:=0
def tw2812661857480709633:=0
def tw1506374757422318975:=0
def tw13312364023258165617:=0
def tw12149819377772371376:=0
def tw3103678297591267388:=0
def tw14991208037233684382:=0
def tw10799116816030907228:=0
def tw9511358800257022213:=0
def tw2575262797371530640:=0
def tw3327935643345839546:=0
def tw17280940311925136731:=0
def tw12176225144446754643:=0
def tw3098862138990071616:=0
def tw4964758516502743660:=0
def tw14228042399130562195:=0
def tw13234770352212491887:=0
def tw12500961631950059660:=0
def tw4096744848129247856:=0
def tw7921213636901723092:=0
def tw4359678336978777297:=0
def tw14833522328254514909:=0
def tw16243403575294578645:=0
def tw7911472099488532552:=0
def tw3798897852139326659:=0
def tw16662527530260162051:=0
def tw2581217050644932337:=0
def tw13312101394094465394:=0
def tw12179671806381058070:=0
def tw15288312772142106490:=0
def tw12211710952258184945:=0
def tw13150391592375611923:=0
def tw5553689238190228935:=0
def tw3433010222725402105:=0
def tw12997295441519872536:=0
def tw12785319580419008529:=0
def tw13829392251484880149:=0
def tw9491889671326102835:=0
def tw16597901188844479383:=0
def tw8351594830929437398:=0
def tw4361793124459364526:=0
def tw1436147910621382411:=0
def tw3666640940244707639:=0
def tw219036839926221356:=0
def tw18309578844472362101:=0
def tw18231579268432861929:=0
def tw16566989605372634006:=0
def tw14815271495343279818:=0
def tw6930860924071714849:=0
def tw10239751227906381280:=0
def tw18006387474767621399:=0
def tw4144057412161006193:=0
def tw11624859150778495662:=0
def tw7993425256596371073:=0
def tw17873397266072076598:=0
def tw12722733505513332110:=0
def tw4284049782705031809:=0
def tw16986333598066494160:=0
def tw13092103245380289462:=0
def tw16369661642012362231:=0
def tw12569847471000604784:=0
def tw382203953878455456:=0
def tw3045138447968957524:=0
def tw13719769684125979020:=0
def tw1049625648265372960:=0
def tw9634914926639451192:=0
def tw17896422369398247581:=0
def tw495546842716417832:=0
def tw16222937301103112537:=0
def tw10780308105130174496:=0
def tw9361943599361180973:=0
def tw9301887407598824023:=0
def tw9513316382796939988:=0
def tw8797468471004017592:=0
def tw4733195355315994204:=0
def tw11554079931805892893:=0
def tw11361260118197636439:=0
def tw4179551978935606681:=0
def tw12184500560301720359:=0
def tw862828833136736738:=0
def tw15967084791140022601:=0
def tw4841886727093971931:=0
def tw17586906683047187534:=0
def tw5021934072675492095:=0
def tw6268035648842354547:=0
def tw4731439874118799368:=0
def tw14727088445301218024:=0
def tw14318586639186221542:=0
def tw766322143893876922:=0
def tw5771439636700708870:=0
def tw5292717118958445134:=0
def tw3632062439817076603:=0
def tw12896242591064610025:=0
def tw11997632391043303330:=0
def tw11198537778598312108:=0
def tw5635225238608430768:=0
def tw14653477471619751401:=0
def tw12572903478648832590:=0
def tw5754818881660782409:=0
def tw549017032983166684:=0
def tw2769642262354742251:=0
def tw18035936244116115820:=0
def tw17493630627083167949:=0
def tw12480335047845157267:=0
def tw6756148055855990365:=0
def tw17363816709995178655:=0
def tw15865915355410101895:=0
def tw11080018016736133283:=0
def tw648013706633217549:=0
def tw17970741784606420065:=0
def tw17534553776876127570:=0
def tw14517720782851677947:=0
def tw3039789222323786669:=0
def tw13623909990439995139:=0
def tw12630670229303572058:=0
def tw11872409463397358550:=0
def tw4925722576847949032:=0
def tw4065082766980846294:=0
def tw16915146141643119164:=0
def tw17130226247527732910:=0
def tw15881229483487880043:=0
def tw14820343008632579648:=0
def tw8710650152365484582:=0
def tw753609053685993458:=0
def tw7021741708168417933:=0
def tw12337068818038145255:=0
def tw5792499217351099873:=0
def tw5459981787460330097:=0
def tw2952116141242402512:=0
def tw14142675725305814958:=0
def tw2918021392769480048:=0
def tw11043250925469808727:=0
def tw2919613439641429919:=0
def tw12137734258280471648:=0
def tw18401031928816716481:=0
def tw6012342037279782426:=0
def tw3959457328320607522:=0
def tw15995016127519565721:=0
def tw12273616098829445777:=0
def tw3293935492781459701:=0
def tw17199221781465583933:=0
def tw9628416960660443871:=0
def tw8733690438472683945:=0
def tw8650366398041189880:=0
def tw8369082710448978463:=0
def tw7297626172271367930:=0
def tw7225317771854144452:=0
def tw670021320925445822:=0
def tw6580532747380543392:=0
def tw5596973329178623908:=0
def tw4443267509153508676:=0
def tw371159925219157896:=0
def tw3145139041905281334:=0
def tw2712776372615601677:=0
def tw2415254091775274589:=0
def tw1962615400802040696:=0
def tw1737849265716947625:=0
def tw16715290437184217254:=0
def tw15896056538397646052:=0
def tw15741023454836502650:=0
def tw15266922844324400251:=0
def tw13074001409038401312:=0
def tw12573032565451740973:=0
def tw11581755092927556272:=0
def tw11529375804591294095:=0
def tw11091477999888232971:=0
def tw11049756309966201425:=0
def tw10778935050815601583:=0
def tw10254356457811710209:=0
def tw3140005419605907529:=0
def tw11735037540859251799:=0
def tw7051108769517523016:=0
def tw2606099651437923615:=0
def tw13874644588534209993:=0
def tw48227157636453952:=0
def tw9616541610421872023:=0
def tw8974345249631708613:=0
def tw7396966977980939587:=0
end PySem.W.Fast
structure Wr (p : Prop) : Prop where h : p
section
open PySem PySem.W PySem.W.X PySem.W.ZRun PyProof.Rows
local macro_rules
  | `(tactic| refine $f:ident $a*) => do
    if f.getId.eraseMacroScopes != `PySem.W.holds_openX then Lean.Macro.throwUnsupported
    let t := Lean.mkIdent `hc
    `(tactic| (refine ($f $a*); case $t:ident => exact Wr.h (by assumption)))
set_option maxRecDepth 100000 in
set_option maxHeartbeats 0 in
def hd11 : (R : Prop) ×' (Wr R → PySem.Challenge.rw_lightmark_k11_blocks_written.Holds) := by
 apply PSigma.mk
 intro r
 w_on; o_law; z_head; (case hw => w_witness2)
end
local macro_rules
 | `(tactic| omega) => `(tactic| first
  | exact Nat.le_refl _
  | exact Nat.le_add_right _ _
  | exact Nat.le_of_ble_eq_true rfl
  | (refine Nat.le_trans (by assumption) ?_; exact Nat.le_of_ble_eq_true rfl)
  | exact Nat.le_succ_of_le (by assumption)
  | (refine Int.le_trans (by assumption) ?_; exact of_decide_eq_true rfl)
  | lia
  | omega +splitNatSub)
set_option maxRecDepth 100000
def l5:=@List.length_append
def l6:=@List.length_map
def l7:=@Nat.le_refl
def l8:=@List.length_cons
def l9:=@List.mem_cons
def l10:=@Nat.le_trans
def l13:=@List.mem_cons_self
def l14:=@Nat.zero_le
def l15:=@List.mem_cons_of_mem
def l16:=@List.map_append
def l17:=@List.mem_of_getElem?
def l18:=@List.mem_append
def l19:=@List.map_cons
def l20:=@List.mem_singleton
def l23:=@List.length_nil
def l24:=@List.append_assoc
def l25:=@List.length_drop
def l26:=@Nat.lt_of_lt_of_le
def l27:=@List.size_toArray
def l28:=@List.map_map
def l29:=@Nat.ne_of_lt
def l30:=@List.mem_append_right
def l31:=@List.append_nil
def l32:=@List.mem_map
def l33:=@List.length_take
def l34:=@Int.toNat_natCast
def l35:=@List.sum_cons
def l36:=@Nat.succ_pos
def l37:=@List.mem_nil_iff
def l38:=@Int.toNat_of_nonneg
def l39:=@List.getD_eq_getElem?_getD
def l40:=@List.take_length
def l41:=@List.take_of_length_le
def l42:=@List.take_add_one
def l43:=@Nat.lt_irrefl
def l44:=@List.mem_append_left
def l45:=@Nat.ne_of_gt
def l46:=@List.nodup_cons
def l47:=@List.all_eq_true
def l48:=@List.mem_map_of_mem
def l49:=@List.replicate_succ
def l50:=@List.flatten_cons
def l51:=@List.map_congr_left
def l52:=@Option.map_eq_some_iff
def l53:=@Nat.mul_le_mul_right
def l54:=@Nat.succ_mul
def l55:=@List.nil_append
def l56:=@List.length_range
def l57:=@List.takeWhile_append_dropWhile
def l58:=@List.take_append_drop
def l59:=@List.flatMap_cons
def l60:=@List.flatMap_append
def l61:=@List.mem_range
def l62:=@List.getElem_mem
def l63:=@Nat.le_add_right
def l64:=@List.isEmpty_iff
def l65:=@List.map_nil
def l66:=@Nat.zero_add
def l67:=@List.isPrefixOf_iff_prefix
def l68:=@List.eq_nil_or_concat
def l69:=@Nat.add_sub_cancel
def l70:=@Int.le_trans
def l71:=@Int.mul_nonneg
def l72:=@Nat.mul_le_mul_left
def l73:=@List.nodup_nil
def l74:=@List.mem_filter
def l75:=@List.filterMap_cons
def l76:=@Nat.lt_succ_self
def l77:=@List.length_replicate
def l78:=@List.length_set
def l79:=@List.foldl_cons
def l80:=@List.length_singleton
def l81:=@List.length_reverse
def l82:=@List.concat_eq_append
def l83:=@Nat.min_eq_left
def l84:=@Nat.min_eq_right
def l85:=@Option.isSome_iff_exists
def l86:=@Int.le_ediv_iff_mul_le
def l87:=@List.singleton_append
def l88:=@List.drop_eq_nil_of_le
def l89:=@List.eq_nil_of_length_eq_zero
def l90:=@List.length_eq_zero_iff
def l91:=@List.eq_of_mem_replicate
theorem sA {α:Type}{a b:α}{l:List α}{n:Nat}:(a::l).set (n+1) b=a::l.set n b:=rfl
theorem sB {α:Type}{a b:α}{l:List α}:(a::l).set 0 b=b::l:=rfl
namespace L2
open PySem PySem.Spec PyProof.Rows
abbrev Key:=Sum Int Str
def keyIs:Key->Value->Bool
 | .inl k,v=>Value.isInt k v
 | .inr x,v=>Value.isStrOf x v
def keyH (w:World):Key->Int
 | .inl k=>hashInt k
 | .inr x=>hashStr w x
theorem ba:∀{k:Key} {v:Value},keyIs k v=true->(∃i t,k=Sum.inl i/\v=Value.int i t) ∨ (∃x t,k=Sum.inr x/\v=Value.str x t)
 | .inl i,v,h=>by
  obtain⟨t,e⟩:=Value.isInt_shape (k:=i) (v:=v) h
  exact .inl ⟨i,t,rfl,e⟩
 | .inr x,v,h=>by
  obtain⟨t,e⟩:=Value.isStrOf_shape (x:=x) (v:=v) h
  exact .inr ⟨x,t,rfl,e⟩
theorem key_ll (a b:Int):decide ((Sum.inl a:Key)=Sum.inl b)=(a==b):=by
 by_cases e:a=b
 ·subst e;simp
 ·have h:¬ (Sum.inl a:Key)=Sum.inl b:=λq=>e (Sum.inl.inj q)
  rw[decide_eq_false h]
  exact(beq_eq_false_iff_ne.mpr e).symm
theorem key_rr (a b:Str):decide ((Sum.inr a:Key)=Sum.inr b)=decide (a=b):=by
 by_cases e:a=b
 ·subst e;simp
 ·have h:¬ (Sum.inr a:Key)=Sum.inr b:=λq=>e (Sum.inr.inj q)
  rw[decide_eq_false h,decide_eq_false e]
theorem key_lr (a:Int)(b:Str):decide ((Sum.inl a:Key)=Sum.inr b)=false:=decide_eq_false (λq=>nomatch q)
theorem key_rl (a:Str)(b:Int):decide ((Sum.inr a:Key)=Sum.inl b)=false:=decide_eq_false (λq=>nomatch q)
def oE (prog:Program)(w:World):PySem.KeyKind prog w Key where
 is:=keyIs
 hash:=keyH w
 inj:=λv a b ha hb=>by
  rcases ba ha with ⟨i,t,rfl,rfl⟩ |⟨x,t,rfl,rfl⟩
  ·rcases ba hb with ⟨j,u,rfl,e⟩ |⟨y,u,rfl,e⟩
   ·injection e with e1 _;rw[e1]
   ·exact nomatch e
  ·rcases ba hb with ⟨j,u,rfl,e⟩ |⟨y,u,rfl,e⟩
   ·exact nomatch e
   ·injection e with e1 _;rw[e1]
 byValue:=λk v h=>by
  rcases ba h with ⟨i,t,rfl,rfl⟩ |⟨x,t,rfl,rfl⟩ <;> rfl
 pyHash:=λhv h=>by
  rcases ba hv with ⟨i,t,rfl,rfl⟩ |⟨x,t,rfl,rfl⟩
  ·exact wpAny_pyHash_int h
  ·exact wpAny_pyHash_str h
 eqBool:=λhu hv h=>by
  rcases ba hu with ⟨i,t,rfl,rfl⟩ |⟨x,t,rfl,rfl⟩
  ·rcases ba hv with ⟨j,u,rfl,rfl⟩ |⟨y,u,rfl,rfl⟩
   ·rw[key_ll] at h;exact wpAny_eqBool_int h
   ·rw[key_lr] at h;exact SeqAt.EqAt.int_str i t y u _ _ _ _ h
  ·rcases ba hv with ⟨j,u,rfl,rfl⟩ |⟨y,u,rfl,rfl⟩
   ·rw[key_rl] at h;exact SeqAt.EqAt.str_int x t j u _ _ _ _ h
   ·rw[key_rr] at h;exact wpAny_eqBool_str h
 «strs» := λk x t v h=>by
  rcases ba h with ⟨i,u,rfl,e⟩ |⟨y,u,rfl,e⟩
  ·exact nomatch e
  ·injection e with e1 _
   subst e1
   cases v <;> rfl
inductive V where
 |non |bl (b:Bool) |int (i:Int) |str (x:Str) |byt (b:Array UInt8) |flt (b:UInt64) |ref (a:Addr) |ty (n:String)
 deriving DecidableEq
def RelV:V->Value->Prop
 | .non,u=>u=Value.none
 | .bl b,u=>u=Value.bool b
 | .int i,u=>∃t,u=Value.int i t
 | .str x,u=>∃t,u=Value.str x t
 | .byt b,u=>∃t,u=Value.bytes b t
 | .flt b,u=>∃t,u=Value.float b t
 | .ref a,u=>u=Value.ref a
 | .ty n,u=>u=Value.type n
abbrev Vals:List V->List Value->Prop:=Paired RelV
theorem Vals.length {xs:List V}{us:List Value}(r:Vals xs us):xs.length=us.length:=Paired.length r
theorem Vals.get:∀{xs:List V} {us:List Value} {i:Nat} {x:V},Vals xs us->xs[i]? = some x->∃u,us[i]? = some u/\RelV x u
 |_,_,_,_, .nil,e=>by simp at e
 |_,_,0,_, .cons r _,e=>by simp at e;subst e;exact⟨_,rfl,r⟩
 |_,_,i+1,x, .cons _ t,e=>by
  obtain⟨u,h1,h2⟩:=Vals.get (i:=i) (x:=x) t (by simpa using e)
  exact⟨u,by simpa using h1,h2⟩
theorem Vals.set {x:V}{u:Value}(r:RelV x u):∀{xs:List V} {us:List Value} (i:Nat),Vals xs us->Vals (xs.set i x) (us.set i u)
 |_,_,_, .nil => .nil
 |_,_,0, .cons _ t => .cons r t
 |_,_,i+1, .cons q t => .cons q (Vals.set r i t)
theorem Vals.append:∀{xs ys:List V} {us ws:List Value},Vals xs us->Vals ys ws->Vals (xs++ys) (us++ws)
 |_,_,_,_, .nil,s=>s
 |_,_,_,_, .cons r t,s => .cons r (Vals.append t s)
theorem Vals.take:∀{xs:List V} {us:List Value} (n:Nat),Vals xs us->Vals (xs.take n) (us.take n)
 |_,_,0,_ => .nil
 |_,_,_+1, .nil => .nil
 |_,_,n+1, .cons r t => .cons r (Vals.take n t)
theorem Vals.drop:∀{xs:List V} {us:List Value} (n:Nat),Vals xs us->Vals (xs.drop n) (us.drop n)
 |_,_,0,r=>r
 |_,_,_+1, .nil => .nil
 |_,_,n+1, .cons _ t=>Vals.drop n t
def RelO:Option V->Option Value->Prop
 |some v,some u=>RelV v u
 |none,none=>True
 |_,_=>False
def KV {κ:Type}:List (κ×V)->List (κ×Value)->Prop:=Paired λ(p:κ×V) (q:κ×Value)=>p.1=q.1/\RelV p.2 q.2
def kV:Key->V
 | .inl i => .int i
 | .inr x => .str x
inductive HO where
  |lst (xs:List V)
  |tup (xs:List V)
  |dK (kvs:List (Key×V)) |dT (kvs:List (List Key×V))
  |set (S:Int->Bool) (n:Nat)
  |ins (C dx:Addr) (fs:List (Str×V))
  |own (x:Addr)
  |xd (fs:List (Str×V))
  |met (f x:Addr)
  |rng (lo hi:Int)
  |frz (o:Obj) (u:HO)
  |tbl (ps:Array Value)
  |ext (φ:Heap->Prop)
abbrev Hp:=Addr->Option HO
def upd (H:Hp)(a:Addr)(o:HO):Hp:=λb=>if b=a then some o else H b
theorem aa {H:Hp}{a:Addr}{o:HO}:upd H a o a=some o:=by unfold upd;rw[if_pos rfl]
theorem af {H:Hp}{a b:Addr}{o:HO}(h:b≠a):upd H a o b=H b:=by unfold upd;rw[if_neg h]
theorem aF {H:Hp}{a b:Addr}{o:HO}(h:H a=some o)(h':H b=none):a≠b:=by
 intro e;subst e;rw[h] at h';cases h'
section
variable (P:Program)(w:World)
def ObjOk (H:Hp)(h:Heap)(a:Addr):HO->Prop
 | .lst xs=>xs.length<=sizeLine/\∃(its:List Value) (n:Nat),Vals xs its/\h.get? a=some { cls := .type "list",data := .seq its.toArray n }
 | .tup xs=>xs.length<=sizeLine/\∃its:List Value,Vals xs its/\IsTup h a its.toArray
 | .dK kvs=>kvs.length<=sizeLine/\(a==sysModules)=false/\∃vs,KV kvs vs/\h.DictOf (oE P w) a vs
 | .dT kvs=>kvs.length<=sizeLine/\(a==sysModules)=false/\∃xs:List (List Key×Addr×Value),
   Paired (λ(p:List Key×V) (q:List Key×Addr×Value)=>p.1=q.1/\H q.2.1=some (.tup (p.1.map kV))/\RelV p.2 q.2.2) kvs xs ∧
   ∃o es ep,h.get? a=some o/\o.ExactDict/\o.data = .dict es ep/\es.toList=xs.map (entryOfKey (tupleKind (oE P w)))/\(xs.map (·.1)).Nodup
 | .set S n=>h.SetOf (intKind P w) a S n
 | .ins C dx fs=>H dx=some (.own a)/\fs.length<=1000/\dx≠a/\h.get? a=some (PySem.W.instObj C dx) ∧
   ∃mA,h.Ns1 dx mA/\(∀f,RelO (fs.lookup f) (mA f))/\PySem.Within mA (fs.map (·.1))
 | .own _=>∃o,h.get? a=some o
 | .xd fs=>∃mA,h.Ns1 a mA/\∀f,RelO (fs.lookup f) (mA f)
 | .rng lo hi=>∃t u v,h.get? a=some { cls := .type "range",data := .fields #[.int lo t, .int hi u, .int 1 v] }
 | .frz o u=>h.get? a=some o/\ObjOk H h a u
 | .tbl ps=>h.get? a=some { cls := .none,data := .fields ps }
 | .met f x=>h.get? a=some (PySem.W.methodObj (.ref f) (.ref x))
 | .ext φ=>φ h/\(∃o,h.get? a=some o)/\∀h1 h2:Heap,φ h1->(∀o,h1.get? a=some o->h2.get? a=some o)->φ h2
def HOk (H:Hp)(h:Heap):Prop:=∀a o,H a=some o->ObjOk P w H h a o
end
section
variable {P:Program}{w:World}{H H':Hp}{h h':Heap}{a:Addr}{o:HO}
theorem ObjOk.lt (x:ObjOk P w H h a o):a < h.objs.size:=by
 cases o with
 |lst xs=>obtain⟨_,_,_,_,e⟩:=x;exact Heap.lt_size e
 |tup xs=>obtain⟨_,_,_,p⟩:=x;exact p.lt
 |dK kvs=>obtain⟨_,_,_,_,o,_,_,e,_⟩:=x;exact Heap.lt_size e
 |dT kvs=>obtain⟨_,_,_,_,o,_,_,e,_⟩:=x;exact Heap.lt_size e
 |set S n=>obtain⟨o,_,_,_,e,_⟩:=x;exact Heap.lt_size e
 |ins C dx fs=>obtain⟨_,_,_,e,_⟩:=x;exact Heap.lt_size e
 |own y=>obtain⟨_,e⟩:=x;exact Heap.lt_size e
 |xd fs=>obtain⟨_,⟨_,_,_,e,_⟩,_⟩:=x;exact Heap.lt_size e
 |rng lo hi=>obtain⟨_,_,_,e⟩:=x;exact Heap.lt_size e
 |frz ob u=>obtain⟨e,_⟩:=x;exact Heap.lt_size e
 |tbl ps=>exact Heap.lt_size (show h.get? a=some _ from x)
 |met f y=>exact Heap.lt_size (show h.get? a=some _ from x)
 |ext φ=>obtain⟨_,⟨_,e⟩,_⟩:=x;exact Heap.lt_size e
theorem Paired.mapP {α β:Type}{F G:α->β->Prop}:∀{l₁:List α} {l₂:List β},Paired F l₁ l₂->(∀a b,F a b->G a b)->Paired G l₁ l₂
 |_,_, .nil,_ => .nil
 |_,_, .cons r t,f => .cons (f _ _ r) (Paired.mapP t f)
theorem ObjOk.stay (x:ObjOk P w H h a o)(k:∀b u,(b=a ∨ H b=some (.own a))->h.get? b=some u->h'.get? b=some u)
  (ho:∀b,H b=some (.own a)->H' b=some (.own a))(ht:∀b xs,H b=some (.tup xs)->H' b=some (.tup xs)):ObjOk P w H' h' a o:=by
 induction o with
 |lst xs=>obtain⟨z,its,n,r,e⟩:=x;exact⟨z,its,n,r,k _ _ (.inl rfl) e⟩
 |tup xs=>obtain⟨z,its,r,ob,e,c⟩:=x;exact⟨z,its,r,ob,k _ _ (.inl rfl) e,c⟩
 |dK kvs=>obtain⟨z,y,vs,r,ob,es,ep,e,c⟩:=x;exact⟨z,y,vs,r,ob,es,ep,k _ _ (.inl rfl) e,c⟩
 |dT kvs=>
  obtain⟨z,y,xs,r,ob,es,ep,e,c⟩:=x
  exact⟨z,y,xs,Paired.mapP r λp q z=>⟨z.1,ht _ _ z.2.1,z.2.2⟩,ob,es,ep,k _ _ (.inl rfl) e,c⟩
 |set S n=>obtain⟨ob,es,ep,t,e,c⟩:=x;exact⟨ob,es,ep,t,k _ _ (.inl rfl) e,c⟩
 |ins C dx fs=>
  obtain⟨d,z,ne,e,mA,⟨od,es,ep,e2,c⟩,r⟩:=x
  exact⟨ho _ d,z,ne,k _ _ (.inl rfl) e,mA,⟨od,es,ep,k _ _ (.inr d) e2,c⟩,r⟩
 |own y=>obtain⟨ob,e⟩:=x;exact⟨ob,k _ _ (.inl rfl) e⟩
 |xd fs=>obtain⟨mA,⟨od,es,ep,e,c⟩,r⟩:=x;exact⟨mA,⟨od,es,ep,k _ _ (.inl rfl) e,c⟩,r⟩
 |rng lo hi=>obtain⟨t,u,v,e⟩:=x;exact⟨t,u,v,k _ _ (.inl rfl) e⟩
 |frz ob u ih=>obtain⟨e,q⟩:=x;exact⟨k _ _ (.inl rfl) e,ih q⟩
 |tbl ps=>
  have e:h.get? a=some { cls := .none,data := .fields ps }:=x
  show h'.get? a=some { cls := .none,data := .fields ps }
  exact k a _ (.inl rfl) e
 |met f y=>
  have e:h.get? a=some (PySem.W.methodObj (.ref f) (.ref y)):=x
  show h'.get? a=some (PySem.W.methodObj (.ref f) (.ref y))
  exact k a _ (.inl rfl) e
 |ext φ=>obtain⟨p,⟨o,e⟩,st⟩:=x;exact⟨st _ _ p λo q=>k _ _ (.inl rfl) q,⟨o,k _ _ (.inl rfl) e⟩,st⟩
theorem HOk.lt (x:HOk P w H h)(e:H a=some o):a < h.objs.size:=(x a o e).lt
theorem HOk.fresh (x:HOk P w H h)(e:h.objs.size<=a):H a=none:=by
 cases q:H a with
 |none=>rfl
 |some u=>exact absurd (l26 (x.lt q) e) (l43 _)
theorem HOk.kept (x:HOk P w H h)(k:∀b u,h.get? b=some u->h'.get? b=some u):HOk P w H h':=λa o e=>
 (x a o e).stay (λb u _ q=>k b u q) (λ_ q=>q) λ_ _ q=>q
theorem HOk.laid (x:HOk P w H h)(k:∀b u,h.get? b=some u->h'.get? b=some u)(hp:h.objs.size<=a)(new:ObjOk P w (upd H a o) h' a o):HOk P w (upd H a o) h':=λb u e=>by
 have hn:=x.fresh hp
 by_cases hb:b=a
 ·subst hb;rw[aa] at e;cases e;exact new
 ·rw[af hb] at e
  exact(x b u e).stay (λc v _ q=>k c v q) (λc q=>by rw[af (aF q hn)];exact q) λc xs q=>by rw[af (aF q hn)];exact q
end
def Rd (H:Hp)(a:Addr)(u:HO):Prop:=H a=some u ∨ ∃o,H a=some (.frz o u)
theorem Rd.ok {P:Program}{w:World}{H:Hp}{h:Heap}{a:Addr}{u:HO}(r:Rd H a u)(x:HOk P w H h):ObjOk P w H h a u:=by
 rcases r with r |⟨o,r⟩
 ·exact x a u r
 ·obtain⟨_,q⟩:=x a _ r
  exact q
def Mut:Option HO->Prop
 |some (.lst _)=>True
 |some (.dK _)=>True
 |some (.dT _)=>True
 |some (.set _ _)=>True
 |some (.ins _ _ _)=>True
 |some (.ext _)=>True
 |_=>False
section
variable {P:Program}{w:World}{H:Hp}{h h':Heap}{x e:Addr}{o':HO}
theorem HOk.write (ok:HOk P w H h)(mu:Mut (H x))(he:e=x ∨ H e=some (.own x))(k:∀b u,b≠e->h.get? b=some u->h'.get? b=some u)(heo:∃u,h'.get? e=some u)
  (new:ObjOk P w (upd H x o') h' x o'):HOk P w (upd H x o') h':=λb u q=>by
 have nown:∀c y,H c=some (.own y)->c≠x:=λc y r z=>by subst z;rw[r] at mu;exact mu
 have ntup:∀c xs,H c=some (.tup xs)->c≠x:=λc xs r z=>by subst z;rw[r] at mu;exact mu
 by_cases hb:b=x
 ·subst hb;rw[aa] at q;cases q;exact new
 ·rw[af hb] at q
  by_cases hbe:b=e
  ·have q':H b=some (.own x):=by
    rcases he with z |z
    ·exact absurd (hbe.trans z) hb
    ·rw[hbe];exact z
   rw[q] at q';cases q'
   obtain⟨v,hv⟩:=heo
   exact⟨v,by rw[hbe];exact hv⟩
  ·refine(ok b u q).stay (λc v hc r=>k c v ?_ r) (λc r=>by rw[af (nown c b r)];exact r) λc xs r=>by rw[af (ntup c xs r)];exact r
   rcases hc with rfl |hc
   ·exact hbe
   ·rintro rfl
    rcases he with z |z
    ·exact nown c b hc z
    ·rw[hc] at z;cases z;exact hb rfl
end
structure Un (fs ex:List Addr)(H H':Hp)(h h':Heap):Prop where
 keep:∀b o,h.get? b=some o->H b=none->b∉fs->b∉ex->h'.get? b=some o
 slot:∀b o,h.get? b=some o->H b=none->b∈fs->b∉ex->∃sl,h'.get? b=some { o with slots:=sl }
 free:∀b o,h.get? b=some o->H b=none->b∉ex->H' b=none
 there:∀b o,h.get? b=some o->b∉ex->∃o',h'.get? b=some o'
 tups:∀b xs,H b=some (.tup xs)->H' b=some (.tup xs)
 frzs:∀b o u,H b=some (.frz o u)->H' b=some (.frz o u)
 tbls:∀b ps,H b=some (.tbl ps)->∃more,H' b=some (.tbl (ps++more))
section
variable {fs fs' ex ex':List Addr}{H H1 H2:Hp}{h h1 h2 h':Heap}{a x e:Addr}{o:HO}
theorem Un.any (u:Un fs ex H H1 h h1){b:Addr}{ob:Obj}(q:h.get? b=some ob)(n:H b=none)(hx:b∉ex):∃sl,h1.get? b=some { ob with slots:=sl }:=by
 by_cases hb:b∈fs
 ·exact u.slot b ob q n hb hx
 ·exact⟨ob.slots,u.keep b ob q n hb hx⟩
theorem Un.kept (k:∀b u,h.get? b=some u->h'.get? b=some u):Un fs ex H H h h':=
 ⟨λb ob q _ _ _=>k b ob q,λb ob q _ _ _=>⟨ob.slots,k b ob q⟩,λ_ _ _ n _=>n,λb ob q _=>⟨ob,k b ob q⟩,λ_ _ q=>q,λ_ _ _ q=>q,λ_ ps q=>⟨#[],by rw[q];simp⟩⟩
theorem Un.refl:Un fs ex H H h h:=Un.kept λ_ _ q=>q
theorem Un.laid (k:∀b u,h.get? b=some u->h'.get? b=some u)(hp:h.objs.size<=a)(hn:H a=none):Un fs ex H (upd H a o) h h' where
 keep:=λb u q _ _ _=>k b u q
 slot:=λb u q _ _ _=>⟨u.slots,k b u q⟩
 free:=λb u q n _=>by rw[af (l29 (l26 (Heap.lt_size q) hp))];exact n
 there:=λb u q _=>⟨u,k b u q⟩
 tups:=λb xs q=>by rw[af (aF q hn)];exact q
 frzs:=λb u xs q=>by rw[af (aF q hn)];exact q
 tbls:=λb ps q=>⟨#[],by rw[af (aF q hn),q];simp⟩
theorem Un.write (mu:Mut (H x))(he:e=x ∨ H e=some (.own x))(k:∀b u,b≠e->h.get? b=some u->h'.get? b=some u)(heo:∃u,h'.get? e=some u):Un fs ex H (upd H x o) h h':=by
 have hx:∀b,H b=none->b≠x:=λb n z=>by subst z;rw[n] at mu;exact mu
 have hb:∀b,H b=none->b≠e:=λb n z=>by
  subst z
  rcases he with r |r
  ·exact hx b n r
  ·rw[n] at r;cases r
 have hm:∀b u,H b=some u->¬ Mut (some u)->b≠x:=λb u q nm z=>by subst z;rw[q] at mu;exact nm mu
 refine ⟨λb u q n _ _=>k b u (hb b n) q,λb u q n _ _=>⟨u.slots,k b u (hb b n) q⟩,λb u q n _=>by rw[af (hx b n)];exact n,λb u q _=>?_,
  λb xs q=>by rw[af (hm b _ q λz=>z)];exact q,λb u xs q=>by rw[af (hm b _ q λz=>z)];exact q,λb ps q=>⟨#[],by rw[af (hm b _ q λz=>z),q];simp⟩⟩
 by_cases hbe:b=e
 ·subst hbe;exact heo
 ·exact⟨u,k b u hbe q⟩
end
def trk (h:Heap)(H:Hp):List Addr:=(List.range h.objs.size).filter λa=>(H a).isSome
def hidT (h:Heap)(H:Hp):Heap:=PySem.W.hideAll h (trk h H)
theorem oF (h:Heap)(H:Hp):(hidT h H).objs.size=h.objs.size:=PySem.W.hideAll_size _ _
theorem hidT_get {h:Heap}{H:Hp}{b:Addr}{o:Obj}(e:h.get? b=some o)(n:H b=none):(hidT h H).get? b=some o:=
 PySem.W.hideAll_get _ e λhm=>by
  have q:(H b).isSome=true:=(l74.mp hm).2
  rw[n] at q;simp at q
theorem of_hidT {h:Heap}{H:Hp}{b:Addr}{o:Obj}(e:(hidT h H).get? b=some o):h.get? b=some o/\H b=none:=by
 have e':h.get? b=some o:=PySem.W.of_hideAll (trk h H) e
 refine⟨e',?_⟩
 cases q:H b with
 |none=>rfl
 |some x=>
  have hm:b∈trk h H:=l74.mpr ⟨l61.mpr (Heap.lt_size e'),by simp[q]⟩
  have z:(hidT h H).get? b=none:=PySem.W.hideAll_none (trk h H) hm
  rw[z] at e;cases e
structure Mod (K:PySem.W.Frag)(mg:Str->Option Value)(base:Heap):Prop where
 kin:K.In base
 glob:base.Ns mainGlobals mg
 blt:∃mb,base.Ns builtinsNs mb/\∀x:Str,x≠"__name__"->mb x=bootBuiltins x
 nolimit:base.NoLimit
structure Cx where
 prog:Program
 w:World
 K:PySem.W.Frag
 mg:Str->Option Value
 base:Heap
 A:Around
 N:List Str
 s₀:Shared
 H₀:Hp
 env:Env
 outer:List Env
 stack:List Env
 ex:List Addr
 fn:Str->Bool
 calm:Bool
 pn:List (Addr×Obj)
 xe:Value->Shared->Prop
def frs (l:List Env):List Addr:=l.filterMap (·.frame)
abbrev Cx.fs (X:Cx):List Addr:=frs X.outer
def Vis (sc:Scope)(x:Str):Prop:=sc.names.lookup x=some .local ∨ sc.names.lookup x=some .cell ∨ sc.names.lookup x=some .free
def Loc (sc:Scope)(x:Str):Prop:=sc.names.lookup x=some .local ∨ sc.names.lookup x=some .cell
def Look (env:Env)(h:Heap)(m:Str->Option Value)(x:Str)(u:Value):Prop:=
 (env.kindOf x=some .local/\m x=some u) ∨ ((env.kindOf x=some .cell ∨ env.kindOf x=some .free)/\∃c,env.cells.lookup x=some c/\h.IsCell c (some u))
structure Cx.Ok (X:Cx):Prop where
 mod:Mod X.K X.mg X.base
 kind:X.env.scope.kind = .function
 glob:X.env.globals=mainGlobals
 blt:X.env.builtins=builtinsNs
 above:X.s₀.heap.objs.size<=X.env.locals
 inj:∀x y c,X.env.cells.lookup x=some c->X.env.cells.lookup y=some c->x=y
 has:∀x,(X.env.kindOf x=some .cell ∨ X.env.kindOf x=some .free)->∃c,X.env.cells.lookup x=some c
 cab:∀x c,X.fn x=true->X.env.cells.lookup x=some c->X.s₀.heap.objs.size<=c
 hd:X.calm=true->X.A.handled=none
 frames:X.A.frames=some X.stack
 stk:X.stack=X.outer ∨ (X.stack=X.env::X.outer/\X.env.frame=some X.env.locals)
 exf:∀b∈X.ex,b≠X.env.locals/\∀x c,X.env.cells.lookup x=some c->c≠b
 bs:∀b o,X.base.get? b=some o->X.s₀.heap.get? b=some o/\X.H₀ b=none
 bsz:X.base.objs.size<=X.s₀.heap.objs.size
 noex:∀b o,X.base.get? b=some o->b∉X.ex
 exfs:∀b∈X.ex,b∉X.fs
 funs:X.s₀.heap.FunFrames X.base X.outer
 frf:∀b∈X.fs,X.H₀ b=none
structure Inv (X:Cx)(pins:List (Addr×Obj))(σ:List (Option V))(H:Hp)(s:Shared):Prop where
 ok:X.Ok
 os:s.os=X.s₀.os
 bare:AllBare s.gens
 base:Un X.fs X.ex X.H₀ H X.s₀.heap s.heap
 loc:∃m,s.heap.Ns X.env.locals m/\∀(i:Nat) (x:Str) (v:V),X.N[i]? = some x->σ[i]? = some (some v)->Vis X.env.scope x->∃u,RelV v u/\Look X.env s.heap m x u
 cell:∀x c,X.env.cells.lookup x=some c->∃v,s.heap.IsCell c v
 free:H X.env.locals=none
 freeC:∀x c,X.env.cells.lookup x=some c->H c=none
 pin:∀p∈X.pn++pins,s.heap.get? p.1=some p.2/\H p.1=none/\p.1≠X.env.locals/\p.1∉X.fs/\∀v,p.2.data ≠ .cell v
 hok:HOk X.prog X.w H s.heap
 len:σ.length=X.N.length
 tk:0 < s.toks
section
variable {X:Cx}{pins:List (Addr×Obj)}{σ:List (Option V)}{H H':Hp}{s:Shared}{h':Heap}
theorem Cx.Ok.nofr (ok:X.Ok){b:Addr}{o:Obj}(e:X.base.get? b=some o):b∉X.fs:=λhb=>by
 have:=(ok.funs.mem hb).1
 rw[e] at this;cases this
theorem Inv.bs (I:Inv X pins σ H s):∀b o,X.base.get? b=some o->s.heap.get? b=some o/\H b=none:=λb o e=>
 ⟨I.base.keep b o (I.ok.bs b o e).1 (I.ok.bs b o e).2 (I.ok.nofr e) (I.ok.noex b o e),I.base.free b o (I.ok.bs b o e).1 (I.ok.bs b o e).2 (I.ok.noex b o e)⟩
theorem Inv.bk (I:Inv X pins σ H s):∀b o,X.base.get? b=some o->s.heap.get? b=some o:=λb o e=>(I.bs b o e).1
theorem Inv.mod (I:Inv X pins σ H s):Mod X.K X.mg X.base:=I.ok.mod
theorem Inv.kIn (I:Inv X pins σ H s):X.K.In s.heap:=I.ok.mod.kin.keeps I.bk
theorem Inv.lt (I:Inv X pins σ H s):X.env.locals < s.heap.objs.size:=let ⟨_,hn,_⟩:=I.loc;hn.lt
theorem Inv.sz (I:Inv X pins σ H s):X.s₀.heap.objs.size<=s.heap.objs.size:=l10 I.ok.above (Nat.le_of_lt I.lt)
theorem Inv.nofs (I:Inv X pins σ H s){a:Addr}(h:s.heap.objs.size<=a):a∉X.fs:=λhb=>by
 obtain⟨_,o,ho,_⟩:=I.ok.funs.mem hb
 exact absurd (l26 (Heap.lt_size ho) (l10 I.sz h)) (l43 _)
theorem Inv.cne (I:Inv X pins σ H s):∀x c,X.env.cells.lookup x=some c->c≠X.env.locals:=λx c e z=>by
 obtain⟨v,o,ho,hd⟩:=I.cell x c e
 obtain⟨m,⟨o',es,ep,ho',hd',_⟩,_⟩:=I.loc
 rw[z,ho'] at ho;cases ho;rw[hd'] at hd;cases hd
theorem Inv.funs (I:Inv X pins σ H s):s.heap.FunFrames X.base X.outer:=by
 have all:∀(l:List Env),(∀b∈frs l,b∈X.fs)->X.s₀.heap.FunFrames X.base l->s.heap.FunFrames X.base l:=by
  intro l
  induction l with
  |nil=>intro _ _;trivial
  |cons env r ih=>
   intro hs hl
   obtain⟨hk,⟨L,o,hf,hn,ho,hd⟩,hr⟩:=hl
   have hL:L∈X.fs:=hs L (by unfold frs;rw[l75,hf];exact l13)
   obtain⟨sl,e⟩:=I.base.slot L o ho (I.ok.frf L hL) hL λz=>I.ok.exfs L z hL
   exact⟨hk,⟨L,_,hf,hn,e,hd⟩,ih (λb hb=>hs b (by unfold frs;rw[l75,hf];exact l15 _ hb)) hr⟩
 exact all X.outer (λ_ hb=>hb) I.ok.funs
theorem Inv.stack (I:Inv X pins σ H s):s.heap.FunFrames X.base X.stack:=by
 rcases I.ok.stk with e |⟨e,hf⟩
 ·rw[e];exact I.funs
 ·rw[e]
  obtain⟨m,hn,_⟩:=I.loc
  refine .cons (by rw[I.ok.kind];decide) hf hn ?_ I.funs
  exact Heap.get?_none_of_le (l10 I.ok.bsz I.ok.above)
theorem Inv.stkSub (I:Inv X pins σ H s):∀b∈frs X.stack,b∈X.env.locals::X.fs:=λb hb=>by
 rcases I.ok.stk with e |⟨e,hf⟩
 ·rw[e] at hb;exact l15 _ hb
 ·rw[e] at hb
  unfold frs at hb
  rw[l75,hf] at hb
  exact hb
theorem Inv.stkFree (I:Inv X pins σ H s):∀b∈frs X.stack,H b=none:=λb hb=>by
 rcases l9.mp (I.stkSub b hb) with e |hb
 ·rw[e];exact I.free
 ·obtain⟨_,o,ho,_⟩:=I.ok.funs.mem hb
  exact I.base.free b o ho (I.ok.frf b hb) λz=>I.ok.exfs b z hb
theorem Inv.step {g':Array GenState}{t':Nat}{d':Drawn}{ch:List Addr}(I:Inv X pins σ H s)
  (hch:∀b∈ch,(b∈X.ex ∨ X.s₀.heap.objs.size<=b)/\b≠X.env.locals/\(∀x c,X.env.cells.lookup x=some c->c≠b)/\∀p∈X.pn++pins,p.1≠b)
  (keep:∀b o,b≠X.env.locals->b∉X.fs->b∉ch->s.heap.get? b=some o->H b=none->h'.get? b=some o)
  (slot:∀b o,b≠X.env.locals->b∈X.fs->b∉ch->s.heap.get? b=some o->H b=none->∃sl,h'.get? b=some { o with slots:=sl }) (free:∀b o,b∉ch->s.heap.get? b=some o->H b=none->H' b=none)
  (there:∀b o,b∉ch->s.heap.get? b=some o->∃o',h'.get? b=some o')
  (tups:∀b xs,H b=some (.tup xs)->H' b=some (.tup xs)) (frzs:∀b o u,H b=some (.frz o u)->H' b=some (.frz o u)) (tbls:∀b ps,H b=some (.tbl ps)->∃more,H' b=some (.tbl (ps++more)))
  (ns:∀m,s.heap.Ns X.env.locals m->h'.Ns X.env.locals m) (hok:HOk X.prog X.w H' h') (hg:AllBare g') (ht:0 < t':=by first |assumption |exact l36 _ |(apply Inv.tk;assumption)):
  Inv X pins σ H' { s with heap:=h',gens:=g',drawn:=d',toks:=t' }:=by
 have neL:∀b o,X.s₀.heap.get? b=some o->b≠X.env.locals:=λb o e=>l29 (l26 (Heap.lt_size e) I.ok.above)
 have neC:∀b o,X.s₀.heap.get? b=some o->b∉X.ex->b∉ch:=λb o e hx hb=>by
  rcases (hch b hb).1 with z |z
  ·exact hx z
  ·exact absurd (l26 (Heap.lt_size e) z) (l43 _)
 have cellK:∀x c,X.env.cells.lookup x=some c->∀v,s.heap.IsCell c v->h'.IsCell c v:=λx c e v ⟨o,ho,hd⟩=>by
  have nch:c∉ch:=λz=>(hch c z).2.2.1 x c e rfl
  by_cases hc:c∈X.fs
  ·obtain⟨sl,q⟩:=slot c o (I.cne x c e) hc nch ho (I.freeC x c e)
   exact⟨_,q,hd⟩
  ·exact⟨o,keep c o (I.cne x c e) hc nch ho (I.freeC x c e),hd⟩
 refine⟨I.ok,I.os,hg,⟨λb o e n hb hx=>?_,λb o e n hb hx=>?_,λb o e n hx=>?_,λb o e hx=>?_,λb xs e=>tups b xs (I.base.tups b xs e),λb o xs e=>frzs b o xs (I.base.frzs b o xs e),λb ps e=>?_⟩,?_,λx c e=>?_,?_,λx c e=>?_,λp hp=>?_,hok,I.len,ht⟩
 ·exact keep b o (neL b o e) hb (neC b o e hx) (I.base.keep b o e n hb hx) (I.base.free b o e n hx)
 ·obtain⟨sl,e1⟩:=I.base.slot b o e n hb hx
  obtain⟨sl',e2⟩:=slot b _ (neL b o e) hb (neC b o e hx) e1 (I.base.free b o e n hx)
  exact⟨sl',e2⟩
 ·obtain⟨o',e1⟩:=I.base.there b o e hx
  exact free b o' (neC b o e hx) e1 (I.base.free b o e n hx)
 ·obtain⟨o',e1⟩:=I.base.there b o e hx
  exact there b o' (neC b o e hx) e1
 ·obtain⟨m1,e1⟩:=I.base.tbls b ps e
  obtain⟨m2,e2⟩:=tbls b _ e1
  exact⟨m1++m2,by rw[e2,Array.append_assoc]⟩
 ·obtain⟨m,hn,hl⟩:=I.loc
  refine⟨m,ns m hn,λi x v e1 e2 e3=>?_⟩
  obtain⟨u,r,l⟩:=hl i x v e1 e2 e3
  refine⟨u,r,?_⟩
  rcases l with l |⟨k,c,e,z⟩
  ·exact .inl l
  ·exact .inr ⟨k,c,e,cellK x c e _ z⟩
 ·obtain⟨v,z⟩:=I.cell x c e
  exact⟨v,cellK x c e v z⟩
 ·obtain⟨m,⟨o,_,_,ho,_⟩,_⟩:=I.loc
  exact free _ o (λz=>(hch _ z).2.1 rfl) ho I.free
 ·obtain⟨v,o,ho,hd⟩:=I.cell x c e
  exact free c o (λz=>(hch c z).2.2.1 x c e rfl) ho (I.freeC x c e)
 ·obtain⟨e,n,ne,nf,d⟩:=I.pin p hp
  have nch:p.1∉ch:=λz=>(hch p.1 z).2.2.2 p hp rfl
  exact⟨keep p.1 p.2 ne nf nch e n,free p.1 p.2 nch e n,ne,nf,d⟩
theorem Inv.un {t':Nat}(I:Inv X pins σ H s)(u:Un X.fs [] H H' s.heap h')(hok:HOk X.prog X.w H' h')(ht:0 < t':=by first |assumption |exact l36 _ |(apply Inv.tk;assumption)):Inv X pins σ H' { s with heap:=h',toks:=t' }:=by
 obtain⟨m,⟨o,es,ep,ho,r⟩,_⟩:=id I.loc
 obtain⟨sl,hL⟩:=u.any ho I.free (by simp)
 exact I.step (g' := s.gens) (d' := s.drawn) (ch := []) (fun _ z => nomatch z) (fun b o _ hb _ e n => u.keep b o e n hb (by simp)) (fun b o _ hb _ e n => u.slot b o e n hb (by simp)) (fun b o _ e n => u.free b o e n (by simp)) (fun b o _ e => u.there b o e (by simp)) u.tups u.frzs u.tbls (λm' hm=>by
  obtain⟨o',es',ep',ho',r'⟩:=hm
  rw[ho] at ho';cases ho'
  exact⟨_,es',ep',hL,r'⟩) hok I.bare
theorem Inv.call {g':Array GenState}{t':Nat}{d':Drawn}{ch:List Addr}(I:Inv X pins σ H s)(u:Un (frs X.stack) ch H H' s.heap h')(hok:HOk X.prog X.w H' h')(hg:AllBare g')
  (hch:∀b∈ch,(b∈X.ex ∨ X.s₀.heap.objs.size<=b)/\b≠X.env.locals/\(∀x c,X.env.cells.lookup x=some c->c≠b)/\∀p∈X.pn++pins,p.1≠b)(ht:0 < t':=by first |assumption |exact l36 _ |(apply Inv.tk;assumption)):
  Inv X pins σ H' { s with heap:=h',gens:=g',drawn:=d',toks:=t' }:=by
 obtain⟨m,⟨o,es,ep,ho,r⟩,_⟩:=id I.loc
 obtain⟨sl,hL⟩:=u.any ho I.free λz=>(hch _ z).2.1 rfl
 exact I.step (ch := ch) hch (fun b o hL hb hc e n => u.keep b o e n (fun z => (l9.mp (I.stkSub b z)).elim hL hb) hc) (fun b o _ _ hc e n => u.any e n hc) (fun b o hc e n => u.free b o e n hc) (fun b o hc e => u.there b o e hc) u.tups u.frzs u.tbls (λm' hm=>by
  obtain⟨o',es',ep',ho',r'⟩:=hm
  rw[ho] at ho';cases ho'
  exact⟨_,es',ep',hL,r'⟩) hok hg
theorem Inv.turned {t':Nat}{it:Addr}(I:Inv X pins σ H s)(k:∀b o,b≠it->s.heap.get? b=some o->h'.get? b=some o)(hn:H it=none)(hL:it≠X.env.locals)
  (h1:it∈X.ex ∨ X.s₀.heap.objs.size<=it)(h2:∀x c,X.env.cells.lookup x=some c->c≠it)(h3:∀p∈X.pn++pins,p.1≠it)(ht:0 < t':=by first |assumption |exact l36 _ |(apply Inv.tk;assumption)):Inv X pins σ H { s with heap:=h',toks:=t' }:=by
 have nit:∀b u,H b=some u->b≠it:=λb u e z=>by rw[z,hn] at e;cases e
 refine I.step (g':=s.gens) (d':=s.drawn) (ch:=[it]) (λb hb=>?_) (λb o _ _ hc e _=>k b o (λz=>hc (by simp[z])) e) (λb o _ _ hc e _=>⟨o.slots,k b o (λz=>hc (by simp[z])) e⟩) (λ_ _ _ _ n=>n)
  (λb o hc e=>⟨o,k b o (λz=>hc (by simp[z])) e⟩) (λ_ _ e=>e) (λ_ _ _ e=>e) (λb ps e=>⟨#[],by rw[e];simp⟩) (λm hm=>?_) (λb u e=>?_) I.bare
 ·have e:b=it:=by simpa using hb
  subst e
  exact⟨h1,hL,h2,h3⟩
 ·obtain⟨o,es,ep,ho,r⟩:=hm
  exact⟨o,es,ep,k _ o (Ne.symm hL) ho,r⟩
 ·refine(I.hok b u e).stay (λc v hc q=>k c v ?_ q) (λ_ q=>q) λ_ _ q=>q
  rcases hc with z |z
  ·rw[z];exact nit b u e
  ·exact nit c _ z
theorem Inv.tok (I:Inv X pins σ H s)(t:Nat)(ht:0 < t:=by first |assumption |exact l36 _ |(apply Inv.tk;assumption)):Inv X pins σ H { s with toks:=t }:=I.un (h':=s.heap) (t':=t) Un.refl I.hok
theorem Inv.kept {t':Nat}(I:Inv X pins σ H s)(k:∀b u,s.heap.get? b=some u->h'.get? b=some u)(ht:0 < t':=by first |assumption |exact l36 _ |(apply Inv.tk;assumption)):Inv X pins σ H { s with heap:=h',toks:=t' }:=I.un (Un.kept k) (I.hok.kept k)
theorem Inv.laid {a:Addr}{o:HO}{t':Nat}(I:Inv X pins σ H s)(k:∀b u,s.heap.get? b=some u->h'.get? b=some u)(hp:s.heap.objs.size<=a)(new:ObjOk X.prog X.w (upd H a o) h' a o)(ht:0 < t':=by first |assumption |exact l36 _ |(apply Inv.tk;assumption)):
  Inv X pins σ (upd H a o) { s with heap:=h',toks:=t' }:=I.un (Un.laid k hp (I.hok.fresh hp)) (I.hok.laid k hp new)
theorem Inv.write {x e:Addr}{o:HO}{t':Nat}(I:Inv X pins σ H s)(mu:Mut (H x))(he:e=x ∨ H e=some (.own x))(k:∀b u,b≠e->s.heap.get? b=some u->h'.get? b=some u)(heo:∃u,h'.get? e=some u)
  (new:ObjOk X.prog X.w (upd H x o) h' x o)(ht:0 < t':=by first |assumption |exact l36 _ |(apply Inv.tk;assumption)):Inv X pins σ (upd H x o) { s with heap:=h',toks:=t' }:=I.un (Un.write mu he k heo) (I.hok.write mu he k heo new)
theorem Inv.weak {σ':List (Option V)}(I:Inv X pins σ H s)(hl:σ'.length=σ.length)(w:∀(i:Nat) v,σ'[i]? = some (some v)->σ[i]? = some (some v)):Inv X pins σ' H s:=
 ⟨I.ok,I.os,I.bare,I.base,let ⟨m,hn,hl'⟩:=I.loc;⟨m,hn,λi x v e1 e2 e3=>hl' i x v e1 (w i v e2) e3⟩,I.cell,I.free,I.freeC,I.pin,I.hok,hl.trans I.len,I.tk⟩
theorem Inv.pins_of {pins':List (Addr×Obj)}(I:Inv X pins σ H s)(h:∀p∈pins',s.heap.get? p.1=some p.2/\H p.1=none/\p.1≠X.env.locals/\p.1∉X.fs/\∀v,p.2.data ≠ .cell v):Inv X pins' σ H s:=
 ⟨I.ok,I.os,I.bare,I.base,I.loc,I.cell,I.free,I.freeC,λp hp=>(l18.mp hp).elim (λz=>I.pin p (l44 _ z)) (h p),I.hok,I.len,I.tk⟩
theorem mm {N:List Str}(hN:N.Nodup){i j:Nat}{x:Str}(a:N[i]? = some x)(b:N[j]? = some x):i=j:=by
 obtain⟨h1,e1⟩:=List.getElem?_eq_some_iff.mp a
 obtain⟨h2,e2⟩:=List.getElem?_eq_some_iff.mp b
 exact(List.getElem_inj hN).mp (e1.trans e2.symm)
theorem jv {M:Model}{A:Around}{E:Value->Shared->Prop}{i:Nat}{x:Str}{v:V}{u:Value}{Q:Unit->Shared->Prop}(I:Inv X pins σ H s)(hN:X.N.Nodup)(hi:X.N[i]? = some x)(hx:Loc X.env.scope x)(r:RelV v u)
  (h:∀s',Inv X pins (σ.set i (some v)) H s'->(∃a,Heap.SameBut a s.heap s'.heap/\(a=X.env.locals ∨ X.env.cells.lookup x=some a))->Q () s')(hf:X.fn x=true ∨ X.env.scope.names.lookup x=some .local:=by first |exact .inl rfl |exact .inr rfl |assumption):wpAny M A (storeName X.env x u) Q E s:=by
 obtain⟨m,hn,hl⟩:=id I.loc
 have hcls:(X.env.scope.kind == .class||(X.env.scope.kind == .module&&X.env.locals != X.env.globals))=false:=by rw[I.ok.kind];rfl
 have hiσ:i < σ.length:=by rw[I.len];exact(List.getElem?_eq_some_iff.mp hi).1
 have cne:=I.cne
 have tracked:∀{a:Addr} {h':Heap},(∃o,s.heap.get? a=some o/\H a=none)->Heap.SameBut a s.heap h'->HOk X.prog X.w H h':=λ{a h'} ha hs b ob e=>by
  obtain⟨_,_,hfree⟩:=ha
  refine(I.hok b ob e).stay (λc w' hc q=>(hs.2 c ?_).trans q) (λ_ q=>q) λ_ _ q=>q
  rintro rfl
  rcases hc with rfl |hc
  ·rw[hfree] at e;cases e
  ·rw[hfree] at hc;cases hc
 rcases hx with hk |hk
 ·refine wpAny_storeName_local hk hn (λh' hn' hs=>?_) hcls
  obtain⟨oL,_,_,hoL,_⟩:=id hn
  refine h _ ⟨I.ok,I.os,I.bare,⟨λb o e n hb hx=>?_,λb o e n hb hx=>?_,I.base.free,λb o e hx=>?_,I.base.tups,I.base.frzs,I.base.tbls⟩,⟨_,hn',λj y v' e1 e2 e3=>?_⟩,λy c e=>?_,I.free,I.freeC,λp hp=>?_,tracked ⟨oL,hoL,I.free⟩ hs,by simpa using I.len,by first |exact I.tk |exact l36 _⟩ ⟨_,hs, .inl rfl⟩
  ·exact(hs.2 b (l29 (l26 (Heap.lt_size e) I.ok.above))).trans (I.base.keep b o e n hb hx)
  ·obtain⟨sl,e1⟩:=I.base.slot b o e n hb hx
   exact⟨sl,(hs.2 b (l29 (l26 (Heap.lt_size e) I.ok.above))).trans e1⟩
  ·obtain⟨o',e1⟩:=I.base.there b o e hx
   exact⟨o',(hs.2 b (l29 (l26 (Heap.lt_size e) I.ok.above))).trans e1⟩
  ·by_cases hj:j=i
   ·subst hj
    rw[hi] at e1;cases e1
    rw[List.getElem?_set_self hiσ] at e2
    cases e2
    exact⟨u,r, .inl ⟨hk,by simp⟩⟩
   ·rw[List.getElem?_set_ne (Ne.symm hj)] at e2
    obtain⟨u',r',q⟩:=hl j y v' e1 e2 e3
    refine⟨u',r',?_⟩
    rcases q with ⟨k,e⟩ |⟨k,c,e,z⟩
    ·refine .inl ⟨k,?_⟩
     have:y≠x:=λe=>hj (mm hN e1 (e▸hi))
     simp[this,e]
    ·exact .inr ⟨k,c,e,z.sameBut hs (cne y c e)⟩
  ·obtain⟨w',z⟩:=I.cell y c e
   exact⟨w',z.sameBut hs (cne y c e)⟩
  ·obtain⟨e,n,ne,nf,d⟩:=I.pin p hp
   exact⟨(hs.2 p.1 ne).trans e,n,ne,nf,d⟩
 ·have hfn:X.fn x=true:=by
   rcases hf with z |z
   ·exact z
   ·rw[z] at hk;cases hk
  obtain⟨c,hc⟩:=I.ok.has x (.inl hk)
  obtain⟨w',z⟩:=I.cell x c hc
  refine wpAny_storeName_cell I.ok.kind hk hc z (λh' hc' hs=>?_)
  obtain⟨oc,hoc,hocd⟩:=id z
  refine h { s with heap:=h' } ⟨I.ok,I.os,I.bare,⟨λb o e n hb hx=>?_,λb o e n hb hx=>?_,I.base.free,λb o e hx=>?_,I.base.tups,I.base.frzs,I.base.tbls⟩,⟨m,hn.sameBut hs (Ne.symm (cne x c hc)),λj y v' e1 e2 e3=>?_⟩,λy c' e=>?_,I.free,I.freeC,λp hp=>?_,tracked ⟨oc,hoc,I.freeC x c hc⟩ hs,by simpa using I.len,by first |exact I.tk |exact l36 _⟩ ⟨c,hs, .inr hc⟩
  ·exact(hs.2 b (l29 (l26 (Heap.lt_size e) (I.ok.cab x c hfn hc)))).trans (I.base.keep b o e n hb hx)
  ·obtain⟨sl,e1⟩:=I.base.slot b o e n hb hx
   exact⟨sl,(hs.2 b (l29 (l26 (Heap.lt_size e) (I.ok.cab x c hfn hc)))).trans e1⟩
  ·obtain⟨o',e1⟩:=I.base.there b o e hx
   exact⟨o',(hs.2 b (l29 (l26 (Heap.lt_size e) (I.ok.cab x c hfn hc)))).trans e1⟩
  ·by_cases hj:j=i
   ·subst hj
    rw[hi] at e1;cases e1
    rw[List.getElem?_set_self hiσ] at e2
    cases e2
    exact⟨u,r, .inr ⟨.inl hk,c,hc,hc'⟩⟩
   ·rw[List.getElem?_set_ne (Ne.symm hj)] at e2
    obtain⟨u',r',q⟩:=hl j y v' e1 e2 e3
    refine⟨u',r',?_⟩
    rcases q with q |⟨k,c',e,z'⟩
    ·exact .inl q
    ·refine .inr ⟨k,c',e,z'.sameBut hs ?_⟩
     rintro rfl
     exact hj (mm hN e1 (I.ok.inj _ _ _ e hc▸hi))
  ·by_cases hcc:c'=c
   ·subst hcc;exact⟨_,hc'⟩
   ·obtain⟨w2,z2⟩:=I.cell y c' e
    exact⟨w2,z2.sameBut hs hcc⟩
  ·obtain⟨e,n,ne,nf,d⟩:=I.pin p hp
   refine⟨(hs.2 p.1 ?_).trans e,n,ne,nf,d⟩
   intro q
   rw[q,hoc] at e
   have q':oc=p.2:=Option.some.inj e
   exact d w' (by rw[<- q'];exact hocd)
theorem mq {M:Model}{A:Around}{E:Value->Shared->Prop}{i:Nat}{x:Str}{v:V}{u:Value}{Q:Unit->Shared->Prop}(I:Inv X pins σ H s)(hN:X.N.Nodup)(hi:X.N[i]? = some x)(hx:Loc X.env.scope x)(r:RelV v u)
  (h:∀s',Inv X pins (σ.set i (some v)) H s'->Q () s')(hf:X.fn x=true ∨ X.env.scope.names.lookup x=some .local:=by first |exact .inl rfl |exact .inr rfl |assumption):wpAny M A (storeName X.env x u) Q E s:=
 jv I hN hi hx r (λs' I' _=>h s' I') hf
theorem Inv.call' {s':Shared}{ch:List Addr}(I:Inv X pins σ H s)(ho:s'.os=s.os)(u:Un (frs X.stack) ch H H' s.heap s'.heap)(hok:HOk X.prog X.w H' s'.heap)(hg:AllBare s'.gens)
  (hch:∀b∈ch,(b∈X.ex ∨ X.s₀.heap.objs.size<=b)/\b≠X.env.locals/\(∀x c,X.env.cells.lookup x=some c->c≠b)/\∀p∈X.pn++pins,p.1≠b)(ht:0 < s'.toks):Inv X pins σ H' s':=by
 obtain⟨h',g',d',t',o'⟩:=s'
 have e:o'=s.os:=ho
 subst e
 exact I.call (g':=g') (t':=t') (d':=d') u hok hg hch ht
end
abbrev XK:=Value->Option Addr->Hp->Prop
abbrev St:=List (Option V)
abbrev VK:=V->Hp->Prop
abbrev TE:=St->Hp->VK->Prop
abbrev TT:=St->Hp->(Bool->Hp->Prop)->Prop
abbrev TA:=St->Hp->(List V->Hp->Prop)->Prop
structure Ends where
 nx:St->Hp->Prop
 rt:VK
 bk:St->Hp->Prop:=λ_ _=>False
 ct:St->Hp->Prop:=λ_ _=>False
abbrev TS:=Ends->St->Hp->Prop
def EP (X:Cx)(pins:List (Addr×Obj))(σ:St)(Q:VK)(u:Value)(s':Shared):Prop:=∃v H',Inv X pins σ H' s'/\RelV v u/\Q v H'
def TP (X:Cx)(pins:List (Addr×Obj))(σ:St)(Q:Bool->Hp->Prop)(b:Bool)(s':Shared):Prop:=∃H',Inv X pins σ H' s'/\Q b H'
def AP (X:Cx)(pins:List (Addr×Obj))(σ:St)(Q:List V->Hp->Prop)(us:List Value)(s':Shared):Prop:=∃vs H',Inv X pins σ H' s'/\Vals vs us/\Q vs H'
def SP (X:Cx)(pins:List (Addr×Obj))(D:Ends)(f:Flow)(s':Shared):Prop:=
 match f with
 | .next=>∃σ' H',Inv X pins σ' H' s'/\D.nx σ' H'
 | .brk=>∃σ' H',Inv X pins σ' H' s'/\D.bk σ' H'
 | .cont=>∃σ' H',Inv X pins σ' H' s'/\D.ct σ' H'
 | .ret u=>∃v σ' H',Inv X pins σ' H' s'/\RelV v u/\D.rt v H'
def PE (X:Cx)(e:Expr)(t:TE):Prop:=
 ∀(pins:List (Addr×Obj)) (s:Shared) (σ:St) (H:Hp) (Q:VK),Inv X pins σ H s->t σ H Q->wpAny (model X.prog X.w) X.A (eval e X.env) (EP X pins σ Q) X.xe s
def PT (X:Cx)(e:Expr)(t:TT):Prop:=
 ∀(pins:List (Addr×Obj)) (s:Shared) (σ:St) (H:Hp) (Q:Bool->Hp->Prop),Inv X pins σ H s->t σ H Q->wpAny (model X.prog X.w) X.A (isTrue e X.env (eval e X.env)) (TP X pins σ Q) X.xe s
def PW (X:Cx)(e:Expr)(t:TT):Prop:=
 ∀(whole:Sem Value) (pins:List (Addr×Obj)) (s:Shared) (σ:St) (H:Hp) (Q:Bool->Hp->Prop),Inv X pins σ H s->t σ H Q->wpAny (model X.prog X.w) X.A (isTrue e X.env whole) (TP X pins σ Q) X.xe s
theorem PW.pt {X:Cx}{e:Expr}{t:TT}(h:PW X e t):PT X e t:=h _
def PA (X:Cx)(es:List Expr)(t:TA):Prop:=
 ∀(pos:Pos) (pins:List (Addr×Obj)) (s:Shared) (σ:St) (H:Hp) (Q:List V->Hp->Prop),Inv X pins σ H s->t σ H Q->wpAny (model X.prog X.w) X.A (spliced (backTo pos (starEach es X.env))) (AP X pins σ Q) X.xe s
def PS (X:Cx)(st:Stmt)(t:TS):Prop:=
 ∀(pins:List (Addr×Obj)) (s:Shared) (σ:St) (H:Hp) (D:Ends),Inv X pins σ H s->t D σ H->wpAny (model X.prog X.w) X.A (exec st X.env) (SP X pins D) X.xe s
def PSs (X:Cx)(st:List Stmt)(t:TS):Prop:=
 ∀(pins:List (Addr×Obj)) (s:Shared) (σ:St) (H:Hp) (D:Ends),Inv X pins σ H s->t D σ H->wpAny (model X.prog X.w) X.A (execs st X.env) (SP X pins D) X.xe s
theorem thn {α:Type}{t:Sem α}{Q Q':α->Shared->Prop}{M:Model}{A:Around}{E:Value->Shared->Prop}{s:Shared}(h:wpAny M A t Q E s)(hQ:∀a s,Q a s->Q' a s):wpAny M A t Q' E s:=wpAny_mono h hQ λ_ _ x=>x
section
variable {X:Cx}
def tVar (i:Nat):TE:=λσ H Q=>∃v,σ[i]? = some (some v)/\Q v H
def tC (v:V):TE:=λ_ H Q=>Q v H
theorem pe_var {i:Nat}{x:Str}{pos:Pos}(hN:X.N[i]? = some x)(hv:Vis X.env.scope x)(hd:(x==("__debug__":Str))=false:=by decide) (hcd:(x==("__classdict__":Str))=false:=by decide):PE X (.Name x pos) (tVar i):=by
 intro pins s σ H Q I h
 obtain⟨v,e,h⟩:=h
 obtain⟨m,hn,hl⟩:=I.loc
 obtain⟨u,r,l⟩:=hl i x v hN e hv
 have fin:EP X pins σ Q u s:=⟨v,H,I,r,h⟩
 rcases l with ⟨hk,hm⟩ |⟨hk,c,hc,hcell⟩
 ·exact wpAny_Name (wpAny_loadName_local I.ok.kind hk hn hm fin) hd
 ·rcases hk with hk |hk
  ·exact wpAny_Name (wpAny_loadName_cell I.ok.kind hk hc hcell fin) hd
  ·exact wpAny_Name (wpAny_loadName_free I.ok.kind hk hc hcell fin hcd) hd
theorem pe_int {i j pos}:PE X (.Constant (.int i) j pos) (tC (.int i)):=λ_ _ _ H _ I h=>wpAny_Constant_int ⟨.int i,H,I.tok _,⟨_,rfl⟩,h⟩
theorem pe_bl {b j pos}:PE X (.Constant (.bool b) j pos) (tC (.bl b)):=λ_ _ _ H _ I h=>Constant_bool ⟨.bl b,H,I,rfl,h⟩
theorem pe_non {j pos}:PE X (.Constant .none j pos) (tC .non):=λ_ _ _ H _ I h=>Constant_none ⟨.non,H,I,rfl,h⟩
theorem pe_str {x j pos}:PE X (.Constant (.str x) j pos) (tC (.str x)):=λ_ _ _ H _ I h=>Calls.Constant_str ⟨.str x,H,I.tok _,⟨_,rfl⟩,h⟩
def Gl (X:Cx)(x:Str):Prop:=X.env.kindOf x=some .globalImplicit
theorem kO {E:Value->Shared->Prop}{pins:List (Addr×Obj)}{s:Shared}{σ:St}{H:Hp}{x:Str}{u:Value}{pos:Pos}{Q:Value->Shared->Prop}(I:Inv X pins σ H s)(hg:Gl X x)(hm:X.mg x=some u)(h:Q u s)
  (hd:(x==("__debug__":Str))=false:=by decide):wpAny (model X.prog X.w) X.A (eval (.Name x pos) X.env) Q E s:=
 Calls.Name_function_global I.ok.kind hg (Calls.loadGlobal_global (by rw[I.ok.glob];exact I.mod.glob.keeps I.bk) hm h) hd
theorem f6 {E:Value->Shared->Prop}{pins:List (Addr×Obj)}{s:Shared}{σ:St}{H:Hp}{x:Str}{u:Value}{pos:Pos}{Q:Value->Shared->Prop}(I:Inv X pins σ H s)(hg:Gl X x)(hm:X.mg x=none)(hv:bootBuiltins x=some u)(h:Q u s)
  (hn:x≠"__name__":=by decide) (hd:(x==("__debug__":Str))=false:=by decide):wpAny (model X.prog X.w) X.A (eval (.Name x pos) X.env) Q E s:=by
 obtain⟨mb,h1,h2⟩:=I.mod.blt
 exact Calls.Name_function_global I.ok.kind hg (Calls.loadGlobal_builtin (by rw[I.ok.glob];exact I.mod.glob.keeps I.bk) hm (by rw[I.ok.blt];exact h1.keeps I.bk) ((h2 x hn).trans hv) h) hd
theorem kP {x:Str}{v:V}{u:Value}{pos:Pos}(hg:Gl X x)(hm:X.mg x=some u)(r:RelV v u)(hd:(x==("__debug__":Str))=false:=by decide):PE X (.Name x pos) (tC v):=
 λ_ _ _ H _ I h=>kO I hg hm ⟨v,H,I,r,h⟩ hd
theorem pe_bltn {x:Str}{v:V}{u:Value}{pos:Pos}(hg:Gl X x)(hm:X.mg x=none)(hv:bootBuiltins x=some u)(r:RelV v u)(hn:x≠"__name__":=by decide) (hd:(x==("__debug__":Str))=false:=by decide):PE X (.Name x pos) (tC v):=
 λ_ _ _ H _ I h=>f6 I hg hm hv ⟨v,H,I,r,h⟩ hn hd
variable {a b:Expr}{ta tb:TE}{pos:Pos}
def tB (t:TE):TT:=λσ H Q=>t σ H λx H1=>∃c,x = .bl c/\Q c H1
theorem pt_val {e:Expr}{t:TE}(h:PE X e t)(he:∀whole,isTrue e X.env whole=(do let v ← whole;standAt e.pos;holding [v] (truthy v)):=by intro _;rfl):PT X e (tB t):=by
 intro pins s σ H Q I hw
 refine isTrue_plain (thn (h pins s σ H _ I hw) λv s1 ⟨x,H1,I1,r1,q1⟩=>?_) (he _)
 obtain⟨d,rfl,q⟩:=q1
 cases r1
 exact wpAny_truthy_bool ⟨H1,I1,q⟩
variable {tA tB':TT}{rest:List Expr}
def tAnd (t u:TT):TT:=λσ H Q=>t σ H λc H1=>if c=true then u σ H1 Q else Q false H1
def tOr (t u:TT):TT:=λσ H Q=>t σ H λc H1=>if c=true then Q true H1 else u σ H1 Q
def tNot (t:TT):TT:=λσ H Q=>t σ H λc H1=>Q (!c) H1
theorem pw_and1 (ha:PT X a tA):PW X (.BoolOp .And [a] pos) tA:=by
 intro wh pins s σ H Q I h
 refine isTrue_and (thn (ha pins s σ H Q I h) λc s1 e=>?_)
 cases c with
 |true=>exact isTrue_and_nil e
 |false=>exact e
theorem pw_or1 (ha:PT X a tA):PW X (.BoolOp .Or [a] pos) tA:=by
 intro wh pins s σ H Q I h
 refine isTrue_or (thn (ha pins s σ H Q I h) λc s1 e=>?_)
 cases c with
 |false=>exact isTrue_or_nil e
 |true=>exact e
theorem pw_and (ha:PT X a tA)(hb:PW X (.BoolOp .And (b::rest) pos) tB'):PW X (.BoolOp .And (a::b::rest) pos) (tAnd tA tB'):=by
 intro wh pins s σ H Q I h
 refine isTrue_and (thn (ha pins s σ H _ I h) λc s1 ⟨H1,I1,q1⟩=>?_)
 cases c with
 |true=>exact hb wh pins s1 σ H1 Q I1 q1
 |false=>exact⟨H1,I1,q1⟩
theorem pw_or (ha:PT X a tA)(hb:PW X (.BoolOp .Or (b::rest) pos) tB'):PW X (.BoolOp .Or (a::b::rest) pos) (tOr tA tB'):=by
 intro wh pins s σ H Q I h
 refine isTrue_or (thn (ha pins s σ H _ I h) λc s1 ⟨H1,I1,q1⟩=>?_)
 cases c with
 |true=>exact⟨H1,I1,q1⟩
 |false=>exact hb wh pins s1 σ H1 Q I1 q1
theorem pt_not (ha:PT X a tA):PT X (.UnaryOp .Not a pos) (tNot tA):=by
 intro pins s σ H Q I h
 exact isTrue_not (ha pins s σ H (λc H1=>Q (!c) H1) I h)
def oG (ta tb:TE):TE:=λσ H Q=>ta σ H λx H1=>∃c,x = .bl c/\if c=true then tb σ H1 Q else Q (.bl false) H1
def tOrV (ta tb:TE):TE:=λσ H Q=>ta σ H λx H1=>∃c,x = .bl c/\if c=true then Q (.bl true) H1 else tb σ H1 Q
theorem pe_one {op}{t:TE}(h:PE X a t):PE X (.BoolOp op [a] pos) t:=λpins s σ H Q I hw=>BoolOp_one (h pins s σ H Q I hw)
theorem pe_and (ha:PE X a ta)(hb:PE X (.BoolOp .And (b::rest) pos) tb):PE X (.BoolOp .And (a::b::rest) pos) (oG ta tb):=by
 intro pins s σ H Q I h
 refine BoolOp_and (thn (ha pins s σ H _ I h) λv s1 ⟨x,H1,I1,r1,q1⟩=>?_)
 obtain⟨c,rfl,q1⟩:=q1
 cases r1
 refine wpAny_truthy_bool ?_
 cases c with
 |true=>exact hb pins s1 σ H1 Q I1 q1
 |false=>exact⟨.bl false,H1,I1,rfl,q1⟩
theorem pe_or (ha:PE X a ta)(hb:PE X (.BoolOp .Or (b::rest) pos) tb):PE X (.BoolOp .Or (a::b::rest) pos) (tOrV ta tb):=by
 intro pins s σ H Q I h
 refine BoolOp_or (thn (ha pins s σ H _ I h) λv s1 ⟨x,H1,I1,r1,q1⟩=>?_)
 obtain⟨c,rfl,q1⟩:=q1
 cases r1
 refine wpAny_truthy_bool ?_
 cases c with
 |false=>exact hb pins s1 σ H1 Q I1 q1
 |true=>exact⟨.bl true,H1,I1,rfl,q1⟩
def tIf (t:TT)(ta tb:TE):TE:=λσ H Q=>t σ H λc H1=>if c=true then ta σ H1 Q else tb σ H1 Q
theorem pe_ifExp {c:Expr}(hc:PT X c tA)(ha:PE X a ta)(hb:PE X b tb):PE X (.IfExp c a b pos) (tIf tA ta tb):=by
 intro pins s σ H Q I h
 refine wpAny_IfExp (thn (hc pins s σ H _ I h) λd s1 ⟨H1,I1,q1⟩=>?_)
 cases d with
 |true=>exact ha pins s1 σ H1 Q I1 q1
 |false=>exact hb pins s1 σ H1 Q I1 q1
end
def SqL (K:PySem.W.Frag)(H:Hp)(a:Addr)(xs:List V):Prop:=
 Rd H a (.lst xs) ∨
  ∃(o:Obj) (its:Array Value) (n:Nat),K.lookup a=some o/\o.cls = .type "list"/\o.dict=none/\o.data = .seq its n/\its.size<=sizeLine/\Vals xs its.toList
def SqT (K:PySem.W.Frag)(H:Hp)(a:Addr)(xs:List V):Prop:=
 Rd H a (.tup xs) ∨
  ∃(o:Obj) (its:Array Value) (n:Nat),K.lookup a=some o/\o.cls = .type "tuple"/\o.data = .seq its n/\its.size<=sizeLine/\Vals xs its.toList
def absV:Value->Option V
 | .none=>some .non
 | .bool b=>some (.bl b)
 | .int i _=>some (.int i)
 | .str x _=>some (.str x)
 | .bytes b _=>some (.byt b)
 | .float b _=>some (.flt b)
 | .ref a=>some (.ref a)
 | .type n=>some (.ty n)
 |_=>none
theorem RelV.abs {x:V}{u:Value}(r:RelV x u):absV u=some x:=by
 cases x with
 |non=>cases r;rfl
 |bl _=>cases r;rfl
 |int _=>obtain⟨t,rfl⟩:=r;rfl
 |str _=>obtain⟨t,rfl⟩:=r;rfl
 |byt _=>obtain⟨t,rfl⟩:=r;rfl
 |flt _=>obtain⟨t,rfl⟩:=r;rfl
 |ref _=>cases r;rfl
 |ty _=>cases r;rfl
theorem RelV.inj {x y:V}{u:Value}(r:RelV x u)(q:RelV y u):x=y:=Option.some.inj (r.abs.symm.trans q.abs)
theorem Vals.inj:∀{xs ys:List V} {us:List Value},Vals xs us->Vals ys us->xs=ys
 |_,_,_, .nil, .nil=>rfl
 |_,_,_, .cons r t, .cons r' t'=>by rw[r.inj r',Vals.inj t t']
section
variable {X:Cx}{pins:List (Addr×Obj)}{σ:St}{H:Hp}{s:Shared}{a:Addr}{xs ys:List V}
theorem SqL.of {K:PySem.W.Frag}(h:H a=some (.lst xs)):SqL K H a xs := .inl (.inl h)
theorem SqT.of {K:PySem.W.Frag}(h:H a=some (.tup xs)):SqT K H a xs := .inl (.inl h)
theorem Inv.list (I:Inv X pins σ H s)(h:SqL X.K H a xs):∃its:List Value,Vals xs its/\PlainL s.heap a its.toArray/\xs.length<=sizeLine:=by
 rcases h with h |⟨o,its,n,hk,hc,hd,hs,hz,r⟩
 ·obtain⟨z,its,n,r,e⟩:=h.ok I.hok
  exact⟨its,r,⟨_,n,e,rfl,rfl,rfl⟩,z⟩
 ·refine⟨its.toList,r,⟨o,n,I.kIn a o hk,hc,hd,by simpa using hs⟩,?_⟩
  have e:=r.length
  simp only[Array.length_toList] at e
  omega
theorem Inv.tuple (I:Inv X pins σ H s)(h:SqT X.K H a xs):∃its:List Value,Vals xs its/\IsTup s.heap a its.toArray/\xs.length<=sizeLine:=by
 rcases h with h |⟨o,its,n,hk,hc,hs,hz,r⟩
 ·obtain⟨z,its,r,p⟩:=h.ok I.hok
  exact⟨its,r,p,z⟩
 ·refine⟨its.toList,r,⟨o,I.kIn a o hk,hc,n,by simpa using hs⟩,?_⟩
  have e:=r.length
  simp only[Array.length_toList] at e
  omega
theorem Inv.list_inj (I:Inv X pins σ H s)(h:SqL X.K H a xs)(h':SqL X.K H a ys):xs=ys:=by
 obtain⟨its,r,⟨o,n,e,_,_,d⟩,_⟩:=I.list h
 obtain⟨its',r',⟨o',n',e',_,_,d'⟩,_⟩:=I.list h'
 rw[e] at e';cases e'
 rw[d] at d'
 injection d' with d1 _
 have:its=its':=by simpa using congrArg Array.toList d1
 subst this
 exact r.inj r'
theorem Inv.tuple_inj (I:Inv X pins σ H s)(h:SqT X.K H a xs)(h':SqT X.K H a ys):xs=ys:=by
 obtain⟨its,r,⟨o,e,_,n,d⟩,_⟩:=I.tuple h
 obtain⟨its',r',⟨o',e',_,n',d'⟩,_⟩:=I.tuple h'
 rw[e] at e';cases e'
 rw[d] at d'
 injection d' with d1 _
 have:its=its':=by simpa using congrArg Array.toList d1
 subst this
 exact r.inj r'
end
abbrev Cx.wish (X:Cx)(E:Value->Shared->Prop):Cx:={ X with xe:=E }
abbrev Cx.nox (X:Cx):Cx:=X.wish λ_ _=>False
theorem Cx.Ok.wish {X:Cx}(ok:X.Ok)(E:Value->Shared->Prop):(X.wish E).Ok:=
 ⟨ok.mod,ok.kind,ok.glob,ok.blt,ok.above,ok.inj,ok.has,ok.cab,ok.hd,ok.frames,ok.stk,ok.exf,ok.bs,ok.bsz,ok.noex,ok.exfs,ok.funs,ok.frf⟩
theorem Cx.Ok.unwish {X:Cx}{E:Value->Shared->Prop}(ok:(X.wish E).Ok):X.Ok:=
 ⟨ok.mod,ok.kind,ok.glob,ok.blt,ok.above,ok.inj,ok.has,ok.cab,ok.hd,ok.frames,ok.stk,ok.exf,ok.bs,ok.bsz,ok.noex,ok.exfs,ok.funs,ok.frf⟩
section
variable {X:Cx}{pins:List (Addr×Obj)}{σ:St}{H:Hp}{s:Shared}{E:Value->Shared->Prop}
theorem Inv.wish (I:Inv X pins σ H s)(E:Value->Shared->Prop):Inv (X.wish E) pins σ H s:=⟨I.ok.wish E,I.os,I.bare,I.base,I.loc,I.cell,I.free,I.freeC,I.pin,I.hok,I.len,I.tk⟩
theorem Inv.unwish (I:Inv (X.wish E) pins σ H s):Inv X pins σ H s:=⟨I.ok.unwish,I.os,I.bare,I.base,I.loc,I.cell,I.free,I.freeC,I.pin,I.hok,I.len,I.tk⟩
theorem SP.unwish {D:Ends}{f:Flow}{s':Shared}(h:SP (X.wish E) pins D f s'):SP X pins D f s':=by
 cases f with
 |next=>obtain⟨σ',H',I,q⟩:=h;exact⟨σ',H',I.unwish,q⟩
 |brk=>obtain⟨σ',H',I,q⟩:=h;exact⟨σ',H',I.unwish,q⟩
 |cont=>obtain⟨σ',H',I,q⟩:=h;exact⟨σ',H',I.unwish,q⟩
 |ret u=>obtain⟨v,σ',H',I,r,q⟩:=h;exact⟨v,σ',H',I.unwish,r,q⟩
theorem PSs.nox {st:List Stmt}{t:TS}(h:PSs X.nox st t):PSs X st t:=λpins s σ H D I hw=>
 wpAny_mono (h pins s σ H D (I.wish _) hw) (λ_ _ q=>q.unwish) λ_ _ z=>False.elim z
end
section
variable {X:Cx}{st:Stmt}{rest:List Stmt}{t u:TS}{e:Expr}{te:TE}{pos:Pos}
def a9:TS:=λD σ H=>D.nx σ H
def tSeq (t u:TS):TS:=λD σ H=>t { D with nx:=u D } σ H
theorem pss_nil:PSs X [] a9:=λ_ _ σ H _ I h=>wpAny_execs_nil ⟨σ,H,I,h⟩
theorem pss_cons (h1:PS X st t)(h2:PSs X rest u):PSs X (st::rest) (tSeq t u):=by
 intro pins s σ H D I h
 refine wpAny_execs_cons (thn (h1 pins s σ H { D with nx:=u D } I h) λf s1 q=>?_)
 cases f with
 |next=>
  obtain⟨σ',H',I',q⟩:=q
  exact h2 pins s1 σ' H' D I' q
 |ret v=>exact q
 |brk=>exact q
 |cont=>exact q
theorem pss_one (h1:PS X st t):PSs X [st] t:=by
 intro pins s σ H D I h
 refine wpAny_execs_cons (thn (h1 pins s σ H D I h) λf s1 q=>?_)
 cases f with
 |next=>exact wpAny_execs_nil q
 |ret v=>exact q
 |brk=>exact q
 |cont=>exact q
theorem Inv.quiet {pins:List (Addr×Obj)}{σ:St}{H:Hp}{s:Shared}(I:Inv X pins σ H s):interactive X.env=false:=by simp[interactive,I.ok.kind]
def tDrop (te:TE):TS:=λD σ H=>te σ H λ_ H1=>D.nx σ H1
theorem ps_expr (he:PE X e te)(hs:swapsWith e none pos.line X.env=pure false:=by rfl):PS X (.Expr e pos) (tDrop te):=by
 intro pins s σ H D I h
 exact wpAny_Expr_any (thn (he pins s σ H _ I h) λv s1 ⟨x,H1,I1,r1,q1⟩=>⟨σ,H1,I1,q1⟩) I.quiet hs
def tRet (te:TE):TS:=λD σ H=>te σ H D.rt
theorem ps_ret (he:PE X e te):PS X (.Return (some e) pos) (tRet te):=by
 intro pins s σ H D I h
 exact wpAny_Return_some (thn (he pins s σ H _ I h) λv s1 ⟨x,H1,I1,r1,q1⟩=>⟨x,σ,H1,I1,r1,q1⟩)
def tIfS (c:TT)(t u:TS):TS:=λD σ H=>c σ H λb H1=>if b=true then t D σ H1 else u D σ H1
theorem ps_if {c:Expr}{a b:List Stmt}{tc:TT}(hc:PT X c tc)(ha:PSs X a t)(hb:PSs X b u):PS X (.If c a b pos) (tIfS tc t u):=by
 intro pins s σ H D I h
 refine wpAny_If (thn (hc pins s σ H _ I h) λd s1 ⟨H1,I1,q1⟩=>?_)
 cases d with
 |true=>exact ha pins s1 σ H1 D I1 q1
 |false=>exact hb pins s1 σ H1 D I1 q1
def tNever:TS:=λ_ _ _=>False
theorem ps_never:PS X st tNever:=λ_ _ _ _ _ _ h=>h.elim
end
abbrev TG:=V->St->Hp->(St->Hp->Prop)->Prop
abbrev TGs:=List V->St->Hp->(St->Hp->Prop)->Prop
def PG (X:Cx)(target:Expr)(t:TG):Prop:=
 ∀(pins:List (Addr×Obj)) (s:Shared) (σ:St) (H:Hp) (v:V) (u:Value) (Q:St->Hp->Prop),Inv X pins σ H s->RelV v u->t v σ H Q →
  wpAny (model X.prog X.w) X.A (assign target X.env u) (λ_ s'=>∃σ' H',Inv X pins σ' H' s'/\Q σ' H') X.xe s
def PGs (X:Cx)(ts:List Expr)(t:TGs):Prop:=
 ∀(pins:List (Addr×Obj)) (s:Shared) (σ:St) (H:Hp) (vs:List V) (us:List Value) (Q:St->Hp->Prop),Inv X pins σ H s->Vals vs us->t vs σ H Q →
  wpAny (model X.prog X.w) X.A (assignInOrder ((assignEach ts X.env).map (·.2)) us) (λ_ s'=>∃σ' H',Inv X pins σ' H' s'/\Q σ' H') X.xe s
abbrev TSet:=V->V->V->Hp->(Hp->Prop)->Prop
def PSet (X:Cx)(t:TSet):Prop:=
 ∀(pins:List (Addr×Obj)) (s:Shared) (σ:St) (H:Hp) (o i v:V) (ov iv u:Value) (Q:Hp->Prop),Inv X pins σ H s->RelV o ov->RelV i iv->RelV v u->t o i v H Q →
  wpAny (model X.prog X.w) X.A (setItem ov iv u) (λ_ s'=>∃H',Inv X pins σ H' s'/\Q H') X.xe s
section
variable {X:Cx}{pos:Pos}
def av (i:Nat):TG:=λv σ H Q=>Q (σ.set i (some v)) H
theorem pg_name {i:Nat}{x:Str}(hN:X.N.Nodup)(hi:X.N[i]? = some x)(hx:Loc X.env.scope x)(hf:X.fn x=true ∨ X.env.scope.names.lookup x=some .local:=by first |exact .inl rfl |exact .inr rfl |assumption):PG X (.Name x pos) (av i):=by
 intro pins s σ H v u Q I r h
 exact wpAny_assign_Name (mq I hN hi hx r (λs' I'=>⟨_,H,I',h⟩) hf)
def gNil:TGs:=λvs σ H Q=>vs=[]/\Q σ H
def gCons (t:TG)(u:TGs):TGs:=λvs σ H Q=>∃v r,vs=v::r/\t v σ H λσ' H'=>u r σ' H' Q
theorem pgs_nil:PGs X [] gNil:=by
 intro pins s σ H vs us Q I r h
 obtain⟨e,h⟩:=h
 subst e
 cases r
 exact assignInOrder_nil ⟨σ,H,I,h⟩
theorem pgs_cons {e:Expr}{es:List Expr}{t:TG}{u:TGs}(h1:PG X e t)(h2:PGs X es u)
  (hs:(assignEach (e::es) X.env).map (·.2)=assign e X.env::(assignEach es X.env).map (·.2):=by rfl):PGs X (e::es) (gCons t u):=by
 intro pins s σ H vs us Q I r h
 obtain⟨v,vr,e1,h⟩:=h
 subst e1
 cases r with
 |cons r rr=>
  rw[hs]
  refine assignInOrder_cons (thn (h1 pins s σ H _ _ _ I r h) λ_ s1 ⟨σ1,H1,I1,q1⟩=>?_)
  exact h2 pins s1 σ1 H1 _ _ Q I1 rr q1
def gTup (K:PySem.W.Frag)(n:Nat)(t:TGs):TG:=λv σ H Q=>∃a xs,v = .ref a/\SqT K H a xs/\xs.length=n/\t xs σ H Q
theorem pg_tup {es:List Expr}{k:Nat}{t:TGs}{n:Nat}(hc:X.calm=true)(h:PGs X es t)
  (hn:(assignEach es X.env).length=n:=by rfl) (hst:(assignEach es X.env).findIdx? (·.1)=none:=by rfl):PG X (.Tuple es k pos) (gTup X.K n t):=by
 intro pins s σ H v u Q I r hw
 obtain⟨a,xs,e1,hq,hl,hw⟩:=hw
 subst e1
 cases r
 obtain⟨its,rv,ht,hz⟩:=I.tuple hq
 refine assign_Tuple_tuple (I.ok.hd hc) ht (by simp[hn,<- hl,rv.length]) hst λh' hx=>?_
 have I1:Inv X pins σ H { s with heap:=h' }:=I.kept (t':=s.toks) λb o e=>hx b o (l29 (Heap.lt_size e)) e
 exact h pins _ σ H xs _ Q I1 (by simpa using rv) hw
def gSub (to ti:TE)(t:TSet):TG:=λv σ H Q=>to σ H λo H1=>ti σ H1 λi H2=>t o i v H2 λH3=>Q σ H3
theorem pg_sub {o i:Expr}{to ti:TE}{t:TSet}(ho:PE X o to)(hi:PE X i ti)(hs:PSet X t)
  (ha : ∀ v, assign (.Subscript o i pos) X.env v = (do
   let ov ← holding [v] (eval o X.env)
   let iv ← holding [v,ov] (eval i X.env)
   standAt pos
   holding [v,ov,iv] (setItem ov iv v)
   release [v,ov,iv] []):=by intro _;rfl):PG X (.Subscript o i pos) (gSub to ti t):=by
 intro pins s σ H v u Q I r h
 rw[ha]
 refine wpAny_bind (wpAny_holding (thn (ho pins s σ H _ I h) λov s1 ⟨x,H1,I1,r1,q1⟩=>?_))
 refine wpAny_bind (wpAny_holding (thn (hi pins s1 σ H1 _ I1 q1) λiv s2 ⟨y,H2,I2,r2,q2⟩=>?_))
 refine wpAny_bind (wpAny_standAt (wpAny_bind (wpAny_holding (thn (hs pins s2 σ H2 x y v ov iv u _ I2 r1 r2 r q2) λ_ s3 ⟨H3,I3,q3⟩=>?_))))
 exact wpAny_release ⟨σ,H3,I3,q3⟩
def tAsg (te:TE)(g:TG):TS:=λD σ H=>te σ H λx H1=>g x σ H1 D.nx
theorem ps_asg {tg e:Expr}{te:TE}{g:TG}(he:PE X e te)(hg:PG X tg g)(hs:swapsWithSole [tg] e pos.line X.env=pure false:=by rfl) (hw:swappedStores [tg] e X.env=pure none:=by rfl)
  (h1:(assignEach [tg] X.env).map (·.2)=[assign tg X.env]:=by rfl):PS X (.Assign [tg] e pos) (tAsg te g):=by
 intro pins s σ H D I h
 refine wpAny_Assign_stores (thn (he pins s σ H _ I h) λv s1 ⟨x,H1,I1,r1,q1⟩=>?_) hs hw
 rw[h1]
 exact thn (hg pins s1 σ H1 x v _ I1 r1 q1) λ_ s2 q=>q
theorem ps_set {i:Nat}{x:Str}{e:Expr}{te:TE}{pos':Pos}(hN:X.N.Nodup)(hi:X.N[i]? = some x)(hx:Loc X.env.scope x)(he:PE X e te)(hs:swapsWith e (some (.Name x pos')) pos.line X.env=pure false:=by rfl) (hf:X.fn x=true ∨ X.env.scope.names.lookup x=some .local:=by first |exact .inl rfl |exact .inr rfl |assumption):
  PS X (.Assign [.Name x pos'] e pos) (tAsg te (av i)):=by
 intro pins s σ H D I h
 refine wpAny_Assign_Name (thn (he pins s σ H _ I h) λv s1 ⟨y,H1,I1,r1,q1⟩=>?_) hs
 exact mq I1 hN hi hx r1 (λs2 I2=>⟨_,H1,I2,q1⟩) hf
end
structure It where
 go:Nat->Hp->Prop
 yld:Nat->Hp->V->Hp->Prop
 stop:Nat->Hp->Prop
def FpOk (X:Cx)(pins:List (Addr×Obj))(H:Hp)(b:Addr):Prop:=
 H b=none/\b≠X.env.locals/\b∉X.fs/\(b∈X.ex ∨ X.s₀.heap.objs.size<=b)/\(∀x c,X.env.cells.lookup x=some c->c≠b)/\∀p∈X.pn++pins,p.1≠b
theorem Inv.fpOk {X:Cx}{pins:List (Addr×Obj)}{σ:St}{H H':Hp}{s:Shared}{b:Addr}(I:Inv X pins σ H s)(hb:s.heap.objs.size<=b)(hn:H' b=none):FpOk X pins H' b:=by
 refine⟨hn,l45 (l26 I.lt hb),I.nofs hb, .inr (l10 I.sz hb),λx c e z=>?_,λp hp z=>?_⟩
 ·obtain⟨v,q⟩:=I.cell x c e
  exact absurd (l26 q.lt (by rw[z];exact hb)) (l43 _)
 ·exact absurd (l26 (Heap.lt_size (I.pin p hp).1) (by rw[z];exact hb)) (l43 _)
structure Turn (P:Program)(w:World)(K:PySem.W.Frag)(tg:Expr)(J:It)(fp:List Addr)(it:Addr)(tn:Nat->Heap->Prop):Prop where
 mem:it∈fp
 obj:∀i h,tn i h->∀b∈fp,∃o,h.get? b=some o/\∀v,o.data ≠ .cell v
 keep:∀i h h',tn i h->(∀b∈fp,∀o,h.get? b=some o->h'.get? b=some o)->tn i h'
 item:∀(X:Cx),X.prog=P->X.w=w->X.K=K->X.calm=true->∀(i:Nat) (pins:List (Addr×Obj)) (s:Shared) (σ:St) (H:Hp) (E:Value->Shared->Prop),Inv X pins σ H s->(∀b∈fp,FpOk X pins H b)->tn i s.heap->J.go i H →
  wpAny (model P w) X.A (pyNext (.ref it)) (λr s1=>∃u,r=some u ∧
   wpAny (model P w) X.A (letOwnedTupleGo tg (.ref it) u) (λ_ s2=>∃x H',Inv X pins σ H' s2/\RelV x u/\J.yld i H x H'/\tn (i+1) s2.heap/\∀b∈fp,H' b=none) E s1) E s
 done:∀(X:Cx),X.prog=P->X.w=w->X.K=K->X.calm=true->∀(i:Nat) (pins:List (Addr×Obj)) (s:Shared) (σ:St) (H:Hp) (E:Value->Shared->Prop),Inv X pins σ H s->(∀b∈fp,FpOk X pins H b)->tn i s.heap->J.stop i H →
  wpAny (model P w) X.A (pyNext (.ref it)) (λr s1=>r=none/\Inv X pins σ H s1) E s
 self:∀(A:Around) (i:Nat) (s:Shared) (Q:Value->Shared->Prop) (E:Value->Shared->Prop),tn i s.heap->Q (.ref it) s->wpAny (model P w) A (pyIter (.ref it)) Q E s
abbrev TI:=St->Hp->(It->Hp->Prop)->Prop
def PIE (X:Cx)(pins:List (Addr×Obj))(σ:St)(tg:Expr)(R:It->Hp->Prop)(itv:Value)(s2:Shared):Prop:=
 ∃(it:Addr) (fp:List Addr) (tn:Nat->Heap->Prop) (J:It) (H':Hp),itv = .ref it/\Inv X pins σ H' s2/\Turn X.prog X.w X.K tg J fp it tn/\tn 0 s2.heap/\(∀b∈fp,FpOk X pins H' b)/\R J H'
def PI (X:Cx)(tg iter:Expr)(wi:TI):Prop:=
 ∀(pins:List (Addr×Obj)) (s:Shared) (σ:St) (H:Hp) (R:It->Hp->Prop),Inv X pins σ H s->wi σ H R →
  wpAny (model X.prog X.w) X.A (eval iter X.env) (λv s1=>wpAny (model X.prog X.w) X.A (pyIter v) (PIE X pins σ tg R) X.xe s1) X.xe s
theorem go_of {M:Model}{A:Around}{E:Value->Shared->Prop}{s:Shared}{tg:Expr}{it:Addr}{u:Value}{o:Obj}{n:String}{vs:Array Value}{Q:Unit->Shared->Prop}(ho:s.heap.get? it=some o)(hc:o.cls = .type n)(hd:o.data = .fields vs)
  (hn:["enumerate","zip","dict_itemiterator","dict_reverseitemiterator","odict_iterator","itertools.zip_longest","itertools.pairwise"].contains n=false)(hQ:Q () s):wpAny M A (letOwnedTupleGo tg (.ref it) u) Q E s:=by
 unfold letOwnedTupleGo
 cases tg <;> first
  |exact wpAny_pure hQ
  | (cases u <;> first
    |exact wpAny_pure hQ
    | (refine wpAny_bind (wpAny_load ho ?_)
       rw[hc,hd]
       show wpAny M A (if (["enumerate","zip","dict_itemiterator","dict_reverseitemiterator","odict_iterator","itertools.zip_longest","itertools.pairwise"].contains n&&vs[0]? == some (rawInt _))=true then _ else _) Q E s
       rw[if_neg (by intro h;rw[hn,Bool.false_and] at h;cases h)]
       exact wpAny_pure hQ))
def Itl (K:PySem.W.Frag)(a:Addr):It:=
 ⟨λi H=>∃xs x,SqL K H a xs/\xs[i]? = some x,λi H x H'=>H'=H/\∀xs,SqL K H a xs->xs[i]? = some x,λi H=>∃xs,SqL K H a xs/\xs.length<=i⟩
def Itt (K:PySem.W.Frag)(a:Addr):It:=
 ⟨λi H=>∃xs x,SqT K H a xs/\xs[i]? = some x,λi H x H'=>H'=H/\∀xs,SqT K H a xs->xs[i]? = some x,λi H=>∃xs,SqT K H a xs/\xs.length<=i⟩
def Itr (lo:Int)(n:Nat):It:=⟨λi _=>i < n,λi H x H'=>H'=H/\x = .int (lo+i),λi _=>n<=i⟩
theorem jw {P:Program}{w:World}{K:PySem.W.Frag}{tg:Expr}(a it:Addr):Turn P w K tg (Itl K a) [it] it (λi h=>h.IsListIter it a i) where
 mem:=by simp
 obj:=λi h st b hb=>by
  have e:b=it:=by simpa using hb
  subst e
  obtain⟨o,e,c,d⟩:=st
  exact⟨o,e,λv z=>by rw[d] at z;cases z⟩
 keep:=λi h h' st k=>st.at λo e=>k it (by simp) o e
 item:=by
  intro X hP hw hK hc i pins s σ H E I hf st hg
  subst hP hw hK
  obtain⟨xs,x,hq,hx⟩:=hg
  obtain⟨its,rv,p,hz⟩:=I.list hq
  obtain⟨u,hu,ru⟩:=rv.get hx
  obtain⟨f0,f1,f2,f3,f4,f5⟩:=hf it (by simp)
  refine wpAny_pyNext_list_item st p.isList (x:=u) (by simpa using hu) λh' st' sb=>?_
  have I1:Inv X pins σ H { s with heap:=h' }:=I.turned (t':=s.toks) (λb o hb e=>(sb.2 b hb).trans e) f0 f1 f3 f4 f5
  obtain⟨o,e,c,d⟩:=id st'
  exact⟨u,rfl,go_of (s:={ s with heap:=h' }) e c d (by decide) ⟨x,H,I1,ru,⟨rfl,λys hy=>by rw[I.list_inj hy hq];exact hx⟩,st',λb hb=>(hf b hb).1⟩⟩
 done:=by
  intro X hP hw hK hc i pins s σ H E I hf st hg
  subst hP hw hK
  obtain⟨xs,hq,hx⟩:=hg
  obtain⟨its,rv,p,hz⟩:=I.list hq
  obtain⟨f0,f1,f2,f3,f4,f5⟩:=hf it (by simp)
  have hl:=rv.length
  exact wpAny_pyNext_list_end (I.ok.hd hc) st p.isList (by simp;omega) λh' eb=>⟨rfl,I.turned (t':=s.toks) (λb o hb e=>eb b o hb e) f0 f1 f3 f4 f5⟩
 self:=λ_ _ _ _ _ st h=>wpAny_pyIter_listiter st h
theorem nv {P:Program}{w:World}{K:PySem.W.Frag}{tg:Expr}(a it:Addr):Turn P w K tg (Itt K a) [it] it (λi h=>h.IsTupleIter it a i) where
 mem:=by simp
 obj:=λi h st b hb=>by
  have e:b=it:=by simpa using hb
  subst e
  obtain⟨o,e,c,d⟩:=st
  exact⟨o,e,λv z=>by rw[d] at z;cases z⟩
 keep:=λi h h' st k=>st.at λo e=>k it (by simp) o e
 item:=by
  intro X hP hw hK hc i pins s σ H E I hf st hg
  subst hP hw hK
  obtain⟨xs,x,hq,hx⟩:=hg
  obtain⟨its,rv,p,hz⟩:=I.tuple hq
  obtain⟨u,hu,ru⟩:=rv.get hx
  obtain⟨f0,f1,f2,f3,f4,f5⟩:=hf it (by simp)
  refine wpAny_pyNext_tuple_item st (show s.heap.IsTuple a its.toArray from p) (x:=u) (by simpa using hu) λh' st' sb=>?_
  have I1:Inv X pins σ H { s with heap:=h' }:=I.turned (t':=s.toks) (λb o hb e=>(sb.2 b hb).trans e) f0 f1 f3 f4 f5
  obtain⟨o,e,c,d⟩:=id st'
  exact⟨u,rfl,go_of (s:={ s with heap:=h' }) e c d (by decide) ⟨x,H,I1,ru,⟨rfl,λys hy=>by rw[I.tuple_inj hy hq];exact hx⟩,st',λb hb=>(hf b hb).1⟩⟩
 done:=by
  intro X hP hw hK hc i pins s σ H E I hf st hg
  subst hP hw hK
  obtain⟨xs,hq,hx⟩:=hg
  obtain⟨its,rv,p,hz⟩:=I.tuple hq
  obtain⟨f0,f1,f2,f3,f4,f5⟩:=hf it (by simp)
  have hl:=rv.length
  exact wpAny_pyNext_tuple_end (I.ok.hd hc) st (show s.heap.IsTuple a its.toArray from p) (by simp;omega) λh' eb=>⟨rfl,I.turned (t':=s.toks) (λb o hb e=>eb b o hb e) f0 f1 f3 f4 f5⟩
 self:=λ_ _ _ _ _ st h=>wpAny_pyIter_tupleiter st h
theorem nw {P:Program}{w:World}{K:PySem.W.Frag}{tg:Expr}(it:Addr)(lo:Int)(n:Nat):Turn P w K tg (Itr lo n) [it] it (λi h=>IsRangeIter h it (lo+(i:Nat) * 1) ((n:Int) - (i:Nat)) 1) where
 mem:=by simp
 obj:=λi h st b hb=>by
  have e:b=it:=by simpa using hb
  subst e
  exact ⟨_,st,λv z=>by
   have z':Data.fields _=Data.cell v:=z
   cases z'⟩
 keep:=λi h h' st k=>k it (by simp) _ st
 item:=by
  intro X hP hw hK hc i pins s σ H E I hf st hg
  subst hP hw hK
  obtain⟨f0,f1,f2,f3,f4,f5⟩:=hf it (by simp)
  have W:=Walks.range (prog:=X.prog) (w:=X.w) (I.ok.hd hc) it lo 1 n
  refine wpAny_with_toks (n:=1) I.tk (W.item i s _ _ hg st λv h' tk hv st' kk htk=>?_)
  obtain⟨t,rfl⟩:=hv
  have htk:0 < tk:=htk
  have I1:Inv X pins σ H { s with heap:=h',toks:=tk }:=I.turned (λb o hb e=>kk b o (by simpa using hb) e) f0 f1 f3 f4 f5
  refine⟨_,rfl,go_of (s:={ s with heap:=h',toks:=tk }) (n:="range_iterator") st' rfl rfl (by decide) ⟨.int (lo+i),H,I1,⟨t,?_⟩,⟨rfl,rfl⟩,st',λb hb=>(hf b hb).1⟩⟩
  rw[Int.mul_one]
 done:=by
  intro X hP hw hK hc i pins s σ H E I hf st hg
  subst hP hw hK
  obtain⟨f0,f1,f2,f3,f4,f5⟩:=hf it (by simp)
  exact wpAny_pyNext_range_end (I.ok.hd hc) st (by have:n<=i:=hg;omega) λh' eb=>⟨rfl,I.turned (t':=s.toks) (λb o hb e=>eb b o hb e) f0 f1 f3 f4 f5⟩
 self:=λ_ _ _ _ _ st h=>wpAny_pyIter_rangeiter st h
section
variable {X:Cx}{tg:Expr}
def iList (K:PySem.W.Frag)(tl:TE):TI:=λσ H R=>tl σ H λx H1=>∃a,x = .ref a/\(∃xs,SqL K H1 a xs)/\R (Itl K a) H1
theorem pi_list {l:Expr}{tl:TE}(hl:PE X l tl):PI X tg l (iList X.K tl):=by
 intro pins s σ H R I h
 refine thn (hl pins s σ H _ I h) λv s1 ⟨x,H1,I1,r1,q1⟩=>?_
 obtain⟨a,e,⟨xs,hq⟩,q⟩:=q1
 subst e
 cases r1
 obtain⟨its,rv,p,hz⟩:=I1.list hq
 refine wpAny_pyIter_list p.isList ?_
 refine⟨s1.heap.objs.size,[s1.heap.objs.size],_,_,H1,rfl,I1.kept (t':=s1.toks) λb o e=>Heap.get?_push_of_some _ e,jw a _,⟨_,Heap.get?_push_size _ rfl,rfl,rfl⟩,λb hb=>?_,q⟩
 have e:b=s1.heap.objs.size:=by simpa using hb
 subst e
 exact I1.fpOk (l7 _) (I1.hok.fresh (l7 _))
theorem range_it {pins:List (Addr×Obj)}{σ:St}{H:Hp}{s:Shared}{R:It->Hp->Prop}{E:Value->Shared->Prop}{lo hi:Int}{t u v:Tok}{tk:Nat}(htk:0 < tk)(I:Inv X pins σ H s) (h1 : -(2 ^ 62)<=lo)(h2:lo < 2 ^ 62) (h3 : -(2 ^ 62)<=hi)(h4:hi < 2 ^ 62)
  (q:R (Itr lo (hi - lo).toNat) H):wpAny (model X.prog X.w) X.A (pyIter (.ref s.heap.objs.size)) (PIE X pins σ tg R) E { s with heap:=s.heap.push { cls := .type "range",data := .fields #[.int lo t, .int hi u, .int 1 v] },toks:=tk }:=by
 refine wpAny_pyIter_range (IsRange.new ..) (small_one h1 h2 h3 h4) ?_
 have I1:Inv X pins σ H { s with heap:=s.heap.push { cls := .type "range",data := .fields #[.int lo t, .int hi u, .int 1 v] },toks:=tk }:=I.kept λb o e=>Heap.get?_push_of_some _ e
 refine ⟨(s.heap.push { cls := .type "range",data := .fields #[.int lo t, .int hi u, .int 1 v] }).objs.size,[(s.heap.push { cls := .type "range",data := .fields #[.int lo t, .int hi u, .int 1 v] }).objs.size],_,_,H,rfl,
  I1.kept (t':=tk) λb o e=>Heap.get?_push_of_some _ e,nw _ lo (hi - lo).toNat,?_,λb hb=>?_,q⟩
 ·have e1:lo+((0:Nat):Int) * 1=lo:=by simp
  have e2:(((hi - lo).toNat:Nat):Int) - ((0:Nat):Int)=Builtin.Range.rangeSize lo hi 1:=by rw[rangeSize_one];split <;> omega
  show IsRangeIter _ _ (lo+((0:Nat):Int) * 1) ((((hi - lo).toNat:Nat):Int) - ((0:Nat):Int)) 1
  rw[e1,e2]
  exact Heap.get?_push_size _ rfl
 ·have e:b=(s.heap.push { cls := .type "range",data := .fields #[.int lo t, .int hi u, .int 1 v] }).objs.size:=by simpa using hb
  subst e
  exact I1.fpOk (l7 _) (I1.hok.fresh (l7 _))
def iRng1 (ta:TA):TI:=λσ H R=>ta σ H λvs H1=>∃j:Int,vs=[.int j] /\ -(2 ^ 62)<=j/\j < 2 ^ 62/\R (Itr 0 j.toNat) H1
theorem oH {a:Expr}{ta:TA}{p pos:Pos}(hg:Gl X "range")(hm:X.mg "range"=none)(ha:PA X [a] ta)(hs:starEach [a] X.env=[(false,eval a X.env)]:=by rfl):PI X tg (.Call (.Name "range" p) [a] [] pos) (iRng1 ta):=by
 intro pins s σ H R I h
 refine Call_ (f6 I hg hm boot_range (PyProof.Rows.callWith_type1 (thn (ha pos pins s σ H _ I h) λus s1 ⟨vs,H1,I1,r1,q1⟩=>?_) hs rfl))
 obtain⟨j,e,q1,q2,q⟩:=q1
 subst e
 cases r1 with
 |cons r rr=>
  cases rr
  obtain⟨t,rfl⟩:=r
  exact call_range_1 (range_it (by first |exact I1.tk |exact l36 _) I1 (by omega) (by omega) q1 q2 (by simpa using q))
def tFor (wi:TI)(g:TG)(tb:TS):TS:=λD σ H=>wi σ H λJ H1=>∃W:Nat->Nat->St->Hp->Prop,(∃m,W 0 m σ H1)/\∀i m σ H,W i m σ H →
 (J.stop i H/\D.nx σ H) ∨ (J.go i H/\∃N:St->Hp->Prop,(∀σ' H',N σ' H'->∃m',m' < m/\W (i+1) m' σ' H')/\∀x H',J.yld i H x H'->g x σ H' λσ2 H2=>tb { D with nx:=N,ct:=N,bk:=D.nx } σ2 H2)
def il (fp:List Addr)(h:Heap):List (Addr×Obj):=fp.filterMap λb=>(h.get? b).map λo=>(b,o)
theorem dt {fp:List Addr}{h:Heap}{b:Addr}{o:Obj}(hb:b∈fp)(e:h.get? b=some o):(b,o)∈il fp h:=List.mem_filterMap.mpr ⟨b,hb,by rw[e];rfl⟩
theorem oI {fp:List Addr}{h:Heap}{p:Addr×Obj}(hp:p∈il fp h):p.1∈fp/\h.get? p.1=some p.2:=by
 obtain⟨b,hb,e⟩:=List.mem_filterMap.mp hp
 cases q:h.get? b with
 |none=>rw[q] at e;cases e
 |some o=>
  rw[q] at e
  have e':(b,o)=p:=Option.some.inj e
  subst e'
  exact⟨hb,q⟩
theorem Inv.pinned {pins:List (Addr×Obj)}{σ:St}{H:Hp}{s:Shared}{fp:List Addr}(I:Inv X pins σ H s)(hf:∀b∈fp,FpOk X pins H b)(ho:∀b∈fp,∃o,s.heap.get? b=some o/\∀v,o.data ≠ .cell v):Inv X (pins++il fp s.heap) σ H s:=
 I.pins_of λp hp=>(l18.mp hp).elim (λz=>I.pin p (l30 _ z)) λz=>by
  obtain⟨hb,e⟩:=oI z
  obtain⟨f0,f1,f2,_⟩:=hf p.1 hb
  obtain⟨o,e',d⟩:=ho p.1 hb
  rw[e] at e';cases e'
  exact⟨e,f0,f1,f2,d⟩
theorem Inv.unpinned {pins pl:List (Addr×Obj)}{σ:St}{H:Hp}{s:Shared}(I:Inv X (pins++pl) σ H s):Inv X pins σ H s:=I.pins_of λp hp=>I.pin p (l30 _ (l44 _ hp))
theorem ps_for {iter:Expr}{body:List Stmt}{wi:TI}{g:TG}{tb:TS}{pos:Pos}(hp:PassesOwn (model X.prog X.w) X.A X.env X.xe)(hc:X.calm=true)(hi:PI X tg iter wi)(hg:PG X tg g)(hb:PSs X body tb)
  (hs:∀x,foldedSetIterable iter X.env x=pure x:=by intro _;rfl):PS X (.For tg iter body [] pos) (tFor wi g tb):=by
 intro pins s σ H D I h
 refine wpAny_For (thn (hi pins s σ H _ I h) λv s1 h1=>thn h1 λitv s2 h2=>?_) hs
 obtain⟨it,fp,tn,J,H2,e,I2,T,st2,f2,W,⟨m0,w0⟩,turn⟩:=h2
 subst e
 have stat:∀{H':Hp},(∀b∈fp,H' b=none)->∀b∈fp,FpOk X pins H' b:=λhn b hb=>⟨hn b hb,(f2 b hb).2⟩
 refine codeAny_forLoop_any (λn s'=>∃i σ' H',Inv X pins σ' H' s'/\tn i s'.heap/\(∀b∈fp,H' b=none)/\W i n σ' H') ?_ m0 ⟨0,σ,H2,I2,st2,λb hb=>(f2 b hb).1,w0⟩
 rintro n s3 ⟨i,σ3,H3,I3,st3,fr3,w3⟩
 rcases turn i n σ3 H3 w3 with ⟨stop,qn⟩ |⟨go,N,hN,step⟩
 ·refine wpAny_passesOwn hp (thn (T.done X rfl rfl rfl hc i pins s3 σ3 H3 X.xe I3 (stat fr3) st3 stop) λr s4 ⟨hr,I4⟩=>?_)
  subst hr
  exact wpAny_execs_nil ⟨σ3,H3,I4,qn⟩
 ·refine wpAny_passesOwn hp (thn (T.item X rfl rfl rfl hc i pins s3 σ3 H3 X.xe I3 (stat fr3) st3 go) λr s4 ⟨u,hr,h4⟩=>?_)
  subst hr
  refine wpAny_passesOwn hp (thn h4 λ_ s5 ⟨x,H5,I5,r5,y5,st5,fr5⟩=>?_)
  have I5':=I5.pinned (stat fr5) (T.obj _ _ st5)
  refine wpAny_passesOwn hp (thn (hg _ s5 σ3 H5 x u _ I5' r5 (step x H5 y5)) λ_ s6 ⟨σ6,H6,I6,q6⟩=>?_)
  refine wpAny_passesOwn hp (thn (hb _ s6 σ6 H6 _ I6 q6) λf s7 q7=>?_)
  have again:∀{σ7:St} {H7:Hp},Inv X (pins++il fp s5.heap) σ7 H7 s7->N σ7 H7->∃m,m < n/\∃i σ' H',Inv X pins σ' H' s7/\tn i s7.heap/\(∀b∈fp,H' b=none)/\W i m σ' H':=λ{σ7 H7} I7 n7=>by
   obtain⟨m',hm,w7⟩:=hN σ7 H7 n7
   refine⟨m',hm,i+1,σ7,H7,I7.unpinned,T.keep _ _ _ st5 λb hb o e=>(I7.pin (b,o) (l30 _ (l30 _ (dt hb e)))).1,λb hb=>?_,w7⟩
   obtain⟨o,e,d⟩:=T.obj _ _ st5 b hb
   exact(I7.pin (b,o) (l30 _ (l30 _ (dt hb e)))).2.1
  cases f with
  |next=>obtain⟨σ7,H7,I7,n7⟩:=q7;exact again I7 n7
  |cont=>obtain⟨σ7,H7,I7,n7⟩:=q7;exact again I7 n7
  |brk=>obtain⟨σ7,H7,I7,q7⟩:=q7;exact⟨σ7,H7,I7.unpinned,q7⟩
  |ret v=>obtain⟨x7,σ7,H7,I7,r7,q7⟩:=q7;exact⟨x7,σ7,H7,I7.unpinned,r7,q7⟩
end
theorem bN {K:PySem.W.Frag}{a:Addr}{xs:List V}{g:TG}{tb:TS}{D:Ends}{σ:St}{H:Hp}(Pv:Nat->St->Hp->Prop)(h0:Pv 0 σ H)(hl:∀i σ H,i<=xs.length->Pv i σ H->SqL K H a xs)
  (hs:∀i x σ H,xs[i]? = some x->Pv i σ H->g x σ H λσ2 H2=>tb { D with nx:=Pv (i+1),ct:=Pv (i+1),bk:=D.nx } σ2 H2) (hd:∀σ H,Pv xs.length σ H->D.nx σ H):
  ∃W:Nat->Nat->St->Hp->Prop,(∃m,W 0 m σ H)/\∀i m σ H,W i m σ H →
   ((Itl K a).stop i H/\D.nx σ H) ∨ ((Itl K a).go i H/\∃N:St->Hp->Prop,(∀σ' H',N σ' H'->∃m',m' < m/\W (i+1) m' σ' H')/\∀x H',(Itl K a).yld i H x H'->g x σ H' λσ2 H2=>tb { D with nx:=N,ct:=N,bk:=D.nx } σ2 H2):=by
 refine⟨λi m σ H=>m=xs.length - i/\i<=xs.length/\Pv i σ H,⟨xs.length,by simp,l14 _,h0⟩,?_⟩
 rintro i m σ H ⟨rfl,hi,p⟩
 have q:=hl i σ H hi p
 by_cases hlt:i < xs.length
 ·refine .inr ⟨⟨xs,xs[i],q,by simp[hlt]⟩,Pv (i+1),λσ' H' p'=>⟨xs.length - (i+1),by omega,rfl,hlt,p'⟩,λx H' y=>?_⟩
  obtain⟨e,y⟩:=y
  subst e
  exact hs i x σ _ (y xs q) p
 ·have e:i=xs.length:=by omega
  subst e
  exact .inl ⟨⟨xs,q,l7 _⟩,hd σ H p⟩
theorem for_tup {K:PySem.W.Frag}{a:Addr}{xs:List V}{g:TG}{tb:TS}{D:Ends}{σ:St}{H:Hp}(Pv:Nat->St->Hp->Prop)(h0:Pv 0 σ H)(hl:∀i σ H,i<=xs.length->Pv i σ H->SqT K H a xs)
  (hs:∀i x σ H,xs[i]? = some x->Pv i σ H->g x σ H λσ2 H2=>tb { D with nx:=Pv (i+1),ct:=Pv (i+1),bk:=D.nx } σ2 H2) (hd:∀σ H,Pv xs.length σ H->D.nx σ H):
  ∃W:Nat->Nat->St->Hp->Prop,(∃m,W 0 m σ H)/\∀i m σ H,W i m σ H →
   ((Itt K a).stop i H/\D.nx σ H) ∨ ((Itt K a).go i H/\∃N:St->Hp->Prop,(∀σ' H',N σ' H'->∃m',m' < m/\W (i+1) m' σ' H')/\∀x H',(Itt K a).yld i H x H'->g x σ H' λσ2 H2=>tb { D with nx:=N,ct:=N,bk:=D.nx } σ2 H2):=by
 refine⟨λi m σ H=>m=xs.length - i/\i<=xs.length/\Pv i σ H,⟨xs.length,by simp,l14 _,h0⟩,?_⟩
 rintro i m σ H ⟨rfl,hi,p⟩
 have q:=hl i σ H hi p
 by_cases hlt:i < xs.length
 ·refine .inr ⟨⟨xs,xs[i],q,by simp[hlt]⟩,Pv (i+1),λσ' H' p'=>⟨xs.length - (i+1),by omega,rfl,hlt,p'⟩,λx H' y=>?_⟩
  obtain⟨e,y⟩:=y
  subst e
  exact hs i x σ _ (y xs q) p
 ·have e:i=xs.length:=by omega
  subst e
  exact .inl ⟨⟨xs,q,l7 _⟩,hd σ H p⟩
theorem cF {lo:Int}{n:Nat}{g:TG}{tb:TS}{D:Ends}{σ:St}{H:Hp}(Pv:Nat->St->Hp->Prop)(h0:Pv 0 σ H)
  (hs:∀i σ H,i < n->Pv i σ H->g (.int (lo+i)) σ H λσ2 H2=>tb { D with nx:=Pv (i+1),ct:=Pv (i+1),bk:=D.nx } σ2 H2) (hd:∀σ H,Pv n σ H->D.nx σ H):
  ∃W:Nat->Nat->St->Hp->Prop,(∃m,W 0 m σ H)/\∀i m σ H,W i m σ H →
   ((Itr lo n).stop i H/\D.nx σ H) ∨ ((Itr lo n).go i H/\∃N:St->Hp->Prop,(∀σ' H',N σ' H'->∃m',m' < m/\W (i+1) m' σ' H')/\∀x H',(Itr lo n).yld i H x H'->g x σ H' λσ2 H2=>tb { D with nx:=N,ct:=N,bk:=D.nx } σ2 H2):=by
 refine⟨λi m σ H=>m=n - i/\i<=n/\Pv i σ H,⟨n,by simp,l14 _,h0⟩,?_⟩
 rintro i m σ H ⟨rfl,hi,p⟩
 by_cases hlt:i < n
 ·refine .inr ⟨hlt,Pv (i+1),λσ' H' p'=>⟨n - (i+1),by omega,rfl,hlt,p'⟩,λx H' y=>?_⟩
  obtain⟨e,y⟩:=y
  subst e y
  exact hs i σ _ hlt p
 ·have e:i=n:=by omega
  subst e
  exact .inl ⟨l7 _,hd σ H p⟩
abbrev R2:=V->V->Hp->VK->Prop
def OpR (X:Cx)(f:Value->Value->Sem Value)(r:R2):Prop:=
 ∀(pins:List (Addr×Obj)) (s:Shared) (σ:St) (H:Hp) (x y:V) (v u:Value) (Q:VK),Inv X pins σ H s->RelV x v->RelV y u->r x y H Q →
  wpAny (model X.prog X.w) X.A (f v u) (EP X pins σ Q) X.xe s
def UnR (X:Cx)(f:Value->Sem Value)(r:V->Hp->VK->Prop):Prop:=
 ∀(pins:List (Addr×Obj)) (s:Shared) (σ:St) (H:Hp) (x:V) (v:Value) (Q:VK),Inv X pins σ H s->RelV x v->r x H Q →
  wpAny (model X.prog X.w) X.A (f v) (EP X pins σ Q) X.xe s
def dW (X:Cx)(f:Value)(r:List V->Hp->VK->Prop):Prop:=
 ∀(pins:List (Addr×Obj)) (s:Shared) (σ:St) (H:Hp) (xs:List V) (us:List Value) (Q:VK),Inv X pins σ H s->Vals xs us->r xs H Q →
  wpAny (model X.prog X.w) X.A (call f us) (EP X pins σ Q) X.xe s
def tOp (r:R2)(ta tb:TE):TE:=λσ H Q=>ta σ H λx H1=>tb σ H1 λy H2=>r x y H2 Q
def tUn (r:V->Hp->VK->Prop)(ta:TE):TE:=λσ H Q=>ta σ H λx H1=>r x H1 Q
def rI (C:Int->Int->Prop)(g:Int->Int->V):R2:=λx y H Q=>∃i j,x = .int i/\y = .int j/\C i j/\Q (g i j) H
def rI0 (g:Int->Int->V):R2:=λx y H Q=>∃i j,x = .int i/\y = .int j/\Q (g i j) H
def rU (g:Int->V):V->Hp->VK->Prop:=λx H Q=>∃i,x = .int i/\Q (g i) H
section
variable {X:Cx}{a b c:Expr}{ta tb tc:TE}{pos:Pos}
theorem binT (ha:PE X a ta)(hb:PE X b tb){pins:List (Addr×Obj)}{s:Shared}{σ:St}{H:Hp}{R:V->V->Hp->Prop}(I:Inv X pins σ H s)
  (h:ta σ H λx H1=>tb σ H1 λy H2=>R x y H2){Q:Value->Shared->Prop}{f:Value->Value->Sem Value}
  (hf:∀v u s2 x y H2,Inv X pins σ H2 s2->RelV x v->RelV y u->R x y H2->wpAny (model X.prog X.w) X.A (f v u) Q X.xe s2):
  wpAny (model X.prog X.w) X.A (eval a X.env) (λv s₁=>wpAny (model X.prog X.w) X.A (eval b X.env) (λu s₂=>wpAny (model X.prog X.w) X.A (f v u) Q X.xe s₂) X.xe s₁) X.xe s:=by
 refine thn (ha pins s σ H _ I h) λv s1 ⟨x,H1,I1,r1,q1⟩=>?_
 refine thn (hb pins s1 σ H1 _ I1 q1) λu s2 ⟨y,H2,I2,r2,q2⟩=>?_
 exact hf v u s2 x y H2 I2 r1 r2 q2
theorem pe_op {op:Operator}{r:R2}(ho:OpR X (binaryOp op) r)(ha:PE X a ta)(hb:PE X b tb):PE X (.BinOp a op b pos) (tOp r ta tb):=by
 intro pins s σ H Q I h
 exact wpAny_BinOp (binT ha hb I h λv u s2 x y H2 I2 rx ry q=>ho pins s2 σ H2 x y v u Q I2 rx ry q)
theorem pe_un {op:UnaryOp}{r:V->Hp->VK->Prop}(ho:UnR X (unaryOp op) r)(ha:PE X a ta):PE X (.UnaryOp op a pos) (tUn r ta):=by
 intro pins s σ H Q I h
 exact UnaryOp_ (thn (ha pins s σ H _ I h) λv s1 ⟨x,H1,I1,r1,q1⟩=>ho pins s1 σ H1 x v Q I1 r1 q1)
theorem opI {f:Value->Value->Sem Value}{C:Int->Int->Prop}{g:Int->Int->Int}
  (rule:∀(i j:Int)(t u:Tok)(s:Shared)(Q:Value->Shared->Prop)(E:Value->Shared->Prop),C i j->Q (.int (g i j) s.toks) { s with toks:=s.toks+1 }->wpAny (model X.prog X.w) X.A (f (.int i t) (.int j u)) Q E s):
  OpR X f (rI C λi j => .int (g i j)):=by
 intro pins s σ H x y v u Q I rx ry h
 obtain⟨i,j,rfl,rfl,hc,q⟩:=h
 obtain⟨t,rfl⟩:=rx
 obtain⟨t',rfl⟩:=ry
 exact rule i j t t' s _ _ hc ⟨.int (g i j),H,I.tok _,⟨_,rfl⟩,q⟩
theorem opI0 {f:Value->Value->Sem Value}{g:Int->Int->Int}
  (rule:∀(i j:Int)(t u:Tok)(s:Shared)(Q:Value->Shared->Prop)(E:Value->Shared->Prop),Q (.int (g i j) s.toks) { s with toks:=s.toks+1 }->wpAny (model X.prog X.w) X.A (f (.int i t) (.int j u)) Q E s):
  OpR X f (rI0 λi j => .int (g i j)):=by
 intro pins s σ H x y v u Q I rx ry h
 obtain⟨i,j,rfl,rfl,q⟩:=h
 obtain⟨t,rfl⟩:=rx
 obtain⟨t',rfl⟩:=ry
 exact rule i j t t' s _ _ ⟨.int (g i j),H,I.tok _,⟨_,rfl⟩,q⟩
theorem opB0 {f:Value->Value->Sem Value}{g:Int->Int->Bool}
  (rule:∀(i j:Int)(t u:Tok)(s:Shared)(Q:Value->Shared->Prop)(E:Value->Shared->Prop),Q (.bool (g i j)) s->wpAny (model X.prog X.w) X.A (f (.int i t) (.int j u)) Q E s):
  OpR X f (rI0 λi j => .bl (g i j)):=by
 intro pins s σ H x y v u Q I rx ry h
 obtain⟨i,j,rfl,rfl,q⟩:=h
 obtain⟨t,rfl⟩:=rx
 obtain⟨t',rfl⟩:=ry
 exact rule i j t t' s _ _ ⟨.bl (g i j),H,I,rfl,q⟩
def CDiv (i j:Int):Prop:=0 < j/\j < 1073741824
def CMul (i j:Int):Prop:=(-(2 ^ 64) < i/\i < 2 ^ 64) ∨ (-(2 ^ 64) < j/\j < 2 ^ 64)
theorem CMul.ok {i j:Int}(h:CMul i j):IntMulOk i j:=by
 rcases h with ⟨h1,h2⟩ |⟨h1,h2⟩
 ·exact .of_left (intBits_le_64 h1 h2)
 ·exact .of_right (intBits_le_64 h1 h2)
theorem bp:OpR X (binaryOp .Add) (rI0 λi j => .int (i+j)):=opI0 λ_ _ _ _ _ _ _ q=>add_int q
theorem im:OpR X (binaryOp .Sub) (rI0 λi j => .int (i - j)):=opI0 λ_ _ _ _ _ _ _ q=>sub_int q
theorem oJ:OpR X (binaryOp .Mult) (rI CMul λi j => .int (i * j)):=opI λ_ _ _ _ _ _ _ hc q=>mul_int q hc.ok
theorem op_fdiv:OpR X (binaryOp .FloorDiv) (rI CDiv λi j => .int (i / j)):=opI λi j _ _ _ _ _ hc q=>by
 have h1:(0:Int) < j:=hc.1
 have h2:j < 1073741824:=hc.2
 exact floordiv_int (by omega) (by rw[Int.fdiv_eq_ediv_of_nonneg i (by omega)];exact q) (.inl (PyProof.noPylong_small (by omega)))
theorem f7:OpR X (binaryOp .Mod) (rI (λ_ j=>0 < j) λi j => .int (i % j)):=opI λi j _ _ _ _ _ hc q=>by
 have h1:(0:Int) < j:=hc
 exact mod_int' (by omega) (by rw[Int.fmod_eq_emod_of_nonneg i (by omega)];exact q)
theorem unI {f:Value->Sem Value}{g:Int->Int}
  (rule:∀(i:Int)(t:Tok)(s:Shared)(Q:Value->Shared->Prop)(E:Value->Shared->Prop),Q (.int (g i) s.toks) { s with toks:=s.toks+1 }->wpAny (model X.prog X.w) X.A (f (.int i t)) Q E s):
  UnR X f (rU λi => .int (g i)):=by
 intro pins s σ H x v Q I rx h
 obtain⟨i,rfl,q⟩:=h
 obtain⟨t,rfl⟩:=rx
 exact rule i t s _ _ ⟨.int (g i),H,I.tok _,⟨_,rfl⟩,q⟩
theorem ej:UnR X (unaryOp .USub) (rU λi => .int (-i)):=unI λ_ _ _ _ _ q=>neg_int q
end
def scal:V->V->Bool
 | .non, .non=>true | .non, .int _=>true | .int _, .non=>true | .non, .bl _=>true | .bl _, .non=>true | .non, .str _=>true | .str _, .non=>true
 | .int _, .int _=>true | .bl _, .bl _=>true | .str _, .str _=>true | .byt _, .byt _=>true
 | .int _, .str _=>true | .str _, .int _=>true | .bl _, .str _=>true | .str _, .bl _=>true
 |_,_=>false
def rEq:R2:=λx y H Q=>scal x y=true/\Q (.bl (decide (x=y))) H
def rNe:R2:=λx y H Q=>scal x y=true/\Q (.bl (!decide (x=y))) H
theorem kQ {i j:Int}:decide (V.int i=V.int j)=(i==j):=by
 rw[Bool.eq_iff_iff]
 simp
theorem dec_bl {i j:Bool}:decide (V.bl i=V.bl j)=(i==j):=by
 rw[Bool.eq_iff_iff]
 simp
theorem oK {i j:Str}:decide (V.str i=V.str j)=(i==j):=by
 rw[Bool.eq_iff_iff]
 simp
theorem oM {i j:Array UInt8}:decide (V.byt i=V.byt j)=(i.toList==j.toList):=by
 rw[Bool.eq_iff_iff]
 cases i
 cases j
 simp
section
variable {X:Cx}{a b c:Expr}{ta tb tc:TE}{pos:Pos}
theorem aT {pins:List (Addr×Obj)}{σ:St}{H:Hp}{s:Shared}{Q:VK}{k k':Bool}(I:Inv X pins σ H s)(q:Q (.bl k) H)(e:k=k'):EP X pins σ Q (.bool k') s:=by
 subst e
 exact⟨.bl k,H,I,rfl,q⟩
theorem aD:OpR X (compareOp .Eq) rEq:=by
 intro pins s σ H x y v u Q I rx ry h
 obtain⟨hs,q⟩:=h
 cases x with
 |non=>
  cases rx
  cases y with
  |non=>cases ry;exact PySem.EqNone.eq_none_none (aT I q (by simp))
  |bl j=>cases ry;exact PySem.EqNone.eq_none_bool (aT I q (by simp))
  |int j=>obtain⟨t',rfl⟩:=ry;exact PySem.EqNone.eq_none_int (aT I q (by simp))
  |str j=>obtain⟨t',rfl⟩:=ry;exact PySem.EqNone.eq_none_str (aT I q (by simp))
  |_=>exact absurd (show false=true from hs) Bool.false_ne_true
 |bl i=>
  cases rx
  cases y with
  |non=>cases ry;exact PySem.EqNone.eq_bool_none (aT I q (by simp))
  |bl j=>cases ry;exact eq_bool (aT I q dec_bl)
  |str j=>obtain⟨t',rfl⟩:=ry;exact PySem.EqMixed.eq_bool_str (aT I q (by simp))
  |_=>exact absurd (show false=true from hs) Bool.false_ne_true
 |int i=>
  obtain⟨t,rfl⟩:=rx
  cases y with
  |non=>cases ry;exact PySem.EqNone.eq_int_none (aT I q (by simp))
  |int j=>obtain⟨t',rfl⟩:=ry;exact eq_int (aT I q kQ)
  |str j=>obtain⟨t',rfl⟩:=ry;exact PySem.EqMixed.eq_int_str (aT I q (by simp))
  |_=>exact absurd (show false=true from hs) Bool.false_ne_true
 |str i=>
  obtain⟨t,rfl⟩:=rx
  cases y with
  |non=>cases ry;exact PySem.EqNone.eq_str_none (aT I q (by simp))
  |bl j=>cases ry;exact PySem.EqMixed.eq_str_bool (aT I q (by simp))
  |int j=>obtain⟨t',rfl⟩:=ry;exact PySem.EqMixed.eq_str_int (aT I q (by simp))
  |str j=>obtain⟨t',rfl⟩:=ry;exact eq_str (aT I q oK)
  |_=>exact absurd (show false=true from hs) Bool.false_ne_true
 |byt i=>
  obtain⟨t,rfl⟩:=rx
  cases y with
  |byt j=>obtain⟨t',rfl⟩:=ry;exact PySem.W.eq_bytes (aT I q oM)
  |_=>exact absurd (show false=true from hs) Bool.false_ne_true
 |_=>cases y <;> exact absurd (show false=true from hs) Bool.false_ne_true
theorem jx:OpR X (compareOp .NotEq) rNe:=by
 intro pins s σ H x y v u Q I rx ry h
 obtain⟨hs,q⟩:=h
 cases x with
 |non=>
  cases rx
  cases y with
  |non=>cases ry;exact PySem.EqNone.ne_none_none (aT I q (by simp))
  |bl j=>cases ry;exact PySem.EqNone.ne_none_bool (aT I q (by simp))
  |int j=>obtain⟨t',rfl⟩:=ry;exact PySem.EqNone.ne_none_int (aT I q (by simp))
  |str j=>obtain⟨t',rfl⟩:=ry;exact PySem.EqNone.ne_none_str (aT I q (by simp))
  |_=>exact absurd (show false=true from hs) Bool.false_ne_true
 |bl i=>
  cases rx
  cases y with
  |non=>cases ry;exact PySem.EqNone.ne_bool_none (aT I q (by simp))
  |bl j=>cases ry;exact ne_bool (aT I q (congrArg not dec_bl))
  |str j=>obtain⟨t',rfl⟩:=ry;exact PySem.EqMixed.ne_bool_str (aT I q (by simp))
  |_=>exact absurd (show false=true from hs) Bool.false_ne_true
 |int i=>
  obtain⟨t,rfl⟩:=rx
  cases y with
  |non=>cases ry;exact PySem.EqNone.ne_int_none (aT I q (by simp))
  |int j=>obtain⟨t',rfl⟩:=ry;exact ne_int (aT I q (congrArg not kQ))
  |str j=>obtain⟨t',rfl⟩:=ry;exact PySem.EqMixed.ne_int_str (aT I q (by simp))
  |_=>exact absurd (show false=true from hs) Bool.false_ne_true
 |str i=>
  obtain⟨t,rfl⟩:=rx
  cases y with
  |non=>cases ry;exact PySem.EqNone.ne_str_none (aT I q (by simp))
  |bl j=>cases ry;exact PySem.EqMixed.ne_str_bool (aT I q (by simp))
  |int j=>obtain⟨t',rfl⟩:=ry;exact PySem.EqMixed.ne_str_int (aT I q (by simp))
  |str j=>obtain⟨t',rfl⟩:=ry;exact ne_str (aT I q (congrArg not oK))
  |_=>exact absurd (show false=true from hs) Bool.false_ne_true
 |byt i=>
  obtain⟨t,rfl⟩:=rx
  cases y with
  |byt j=>obtain⟨t',rfl⟩:=ry;exact PySem.W.ne_bytes (aT I q (congrArg not oM))
  |_=>exact absurd (show false=true from hs) Bool.false_ne_true
 |_=>cases y <;> exact absurd (show false=true from hs) Bool.false_ne_true
theorem op_lt:OpR X (compareOp .Lt) (rI0 λi j => .bl (decide (i < j))):=opB0 λ_ _ _ _ _ _ _ q=>lt_int q
theorem hV:OpR X (compareOp .Gt) (rI0 λi j => .bl (decide (j < i))):=opB0 λ_ _ _ _ _ _ _ q=>gt_int q
theorem op_ge:OpR X (compareOp .GtE) (rI0 λi j => .bl (decide (j<=i))):=opB0 λ_ _ _ _ _ _ _ q=>ge_int q
theorem f8:OpR X (compareOp .In) (λx y H Q=>∃i j,x = .str i/\y = .str j/\Q (.bl (!(Builtin.Str.occurrences j i 0 j.length 1).isEmpty)) H):=by
 intro pins s σ H x y v u Q I rx ry h
 obtain⟨i,j,rfl,rfl,q⟩:=h
 obtain⟨t,rfl⟩:=rx
 obtain⟨t',rfl⟩:=ry
 exact in_str (aT I q rfl)
theorem op_notN:OpR X (compareOp .IsNot) (λx y H Q=>y = .non/\Q (.bl (!decide (x = .non))) H):=by
 intro pins s σ H x y v u Q I rx ry h
 obtain⟨rfl,q⟩:=h
 cases ry
 refine isnot_none_gen (aT I q ?_)
 cases x <;> first
  |(cases rx;rfl)
  |(obtain⟨t,rfl⟩:=rx;rfl)
theorem ai (b:Expr){op:CmpOp}(h:op ≠ .In:=by decide) (h2:op ≠ .NotIn:=by decide):behindInMarks op b=false:=by
 have e1:(op==CmpOp.In)=false:=by cases op <;> first |rfl |exact absurd rfl h
 have e2:(op==CmpOp.NotIn)=false:=by cases op <;> first |rfl |exact absurd rfl h2
 cases b <;> simp[behindInMarks,e1,e2]
theorem pe_cmpR {op:CmpOp}{r:R2}(ho:OpR X (compareOp op) r)(ha:PE X a ta)(hb:PE X b tb)(hm:behindInMarks op b=false):PE X (.Compare a [op] [b] pos) (tOp r ta tb):=by
 intro pins s σ H Q I h
 exact wpAny_Compare1 (binT ha hb I h λv u s2 x y H2 I2 rx ry q=>ho pins s2 σ H2 x y v u Q I2 rx ry q) hm
def bH (t:TE):TT:=λσ H Q=>t σ H λx H'=>∃k,x = .bl k/\Q k H'
theorem pt_cmpR {op:CmpOp}{r:R2}(ho:OpR X (compareOp op) r)(ha:PE X a ta)(hb:PE X b tb)(hm:behindInMarks op b=false):PT X (.Compare a [op] [b] pos) (bH (tOp r ta tb)):=by
 intro pins s σ H Q I h
 refine wpAny_isTrue_Compare1 (thn (ha pins s σ H _ I h) λv s1 ⟨x,H1,I1,r1,q1⟩=>thn (hb pins s1 σ H1 _ I1 q1) λu s2 ⟨y,H2,I2,r2,q2⟩=>
  thn (ho pins s2 σ H2 x y v u _ I2 r1 r2 q2) λc s3 ⟨z,H3,I3,r3,k,e,q3⟩=>?_) hm
 subst e
 cases r3
 exact wpAny_truthy_bool ⟨H3,I3,q3⟩
theorem f9:(sizeLine:Nat) < 2 ^ 63:=by rw[sizeLine_eq];decide
theorem ae:OpR X (binaryOp .Add) (λx y H Q=>∃i j,x = .str i/\y = .str j/\i.length+j.length<=sizeLine/\Q (.str (i++j)) H):=by
 intro pins s σ H x y v u Q I rx ry h
 obtain⟨i,j,rfl,rfl,hz,q⟩:=h
 obtain⟨t,rfl⟩:=rx
 obtain⟨t',rfl⟩:=ry
 exact wpAny_with_toks (n:=1) I.tk (add_str (λt' tk htk=>⟨.str (i++j),H,I.tok _ htk,⟨_,rfl⟩,q⟩) hz)
theorem ny {x:V}{us:List Value}(r:Vals [x] us):∃u,us=[u]/\RelV x u:=by
 cases r with
 |cons r1 r2=>cases r2;exact⟨_,rfl,r1⟩
theorem bO:dW X (.type "int") (λxs H Q=>(∃i,xs=[.int i]/\Q (.int i) H) ∨ ∃k,xs=[.bl k]/\Q (.int (if k then 1 else 0)) H):=by
 intro pins s σ H xs us Q I r h
 rcases h with ⟨i,rfl,q⟩ |⟨k,rfl,q⟩
 ·obtain⟨u,rfl,t,rfl⟩:=ny r
  exact call_int_int ⟨.int i,H,I,⟨_,rfl⟩,q⟩
 ·obtain⟨u,rfl,r1⟩:=ny r
  cases r1
  exact call_int_bool ⟨.int (if k then 1 else 0),H,I.tok _,⟨_,rfl⟩,q⟩
end
structure ObjM (h:Heap)(x dx C:Addr)(mA:Str->Option Value):Prop where
 obj:h.get? x=some (PySem.W.instObj C dx)
 ns:h.Ns1 dx mA
 ne:dx≠x
theorem oN {h:Heap}{dx:Addr}{mA:Str->Option Value}(n:h.Ns1 dx mA):∃od,h.get? dx=some od/\∀name,PySem.W.lookIn name od=some (mA name):=by
 obtain⟨o,es,ep,ho,hd,hk,_,hm⟩:=n
 refine⟨o,ho,λname=>?_⟩
 have e:=hm name
 unfold nsFind findBy at e
 rw[<- Array.find?_toList] at e
 unfold PySem.W.lookIn
 rw[hd]
 dsimp only
 split
 ·rename_i y q
  rw[q] at e
  exact congrArg some e
 ·rename_i q
  rw[q] at e
  have a:es.toList.any (·.refKey)=false:=by
   rw[List.any_eq_false]
   intro y hy
   obtain⟨z,t,hkey⟩:=hk y (Array.mem_toList_iff.mp hy)
   simp[DictEntry.refKey,hkey]
  have a':¬ es.toList.any (·.refKey)=true:=by rw[a];exact Bool.false_ne_true
  rw[if_neg a']
  exact congrArg some e
theorem ObjM.look {h:Heap}{x dx C:Addr}{mA:Str->Option Value}(I:ObjM h x dx C mA):∃od,PySem.W.InstAt h x (PySem.W.instObj C dx) C (some od)/\∀name,PySem.W.lookIn name od=some (mA name):=
 let ⟨od,ho,hl⟩:=oN I.ns
 ⟨od,⟨I.obj,rfl,rfl,ho⟩,hl⟩
section
variable {prog:Program}{w:World}{A:Around}{E:Value->Shared->Prop}{s:Shared}{K:PySem.W.Frag}{x dx C f:Addr}{mA:Str->Option Value}{name:Str}{v:Value}
theorem get_map {expr:Bool}{Q:Value->Shared->Prop}(X:K.In s.heap)(I:ObjM s.heap x dx C mA)(hg:PySem.W.plainGet K C name=true)(hh:PySem.W.hasDictIn K C=true)
  (ha:PySem.W.findIn K (.ref C) name=some none)(hv:mA name=some v)(hv':PySem.W.handedIn v=true)(h:Q v { s with toks:=s.toks+1 }):
  wpAny (model prog w) A (getAttr (.ref x) name expr) Q E s:=by
 obtain⟨od,J,hl⟩:=I.look
 exact PySem.W.get_value X J (PySem.W.plainGet_of hg).1 (PySem.W.findObj_own hh ha rfl (by rw[hl,hv])) hv' h
theorem get_meth {pl:Sem Bool}{Q:Value×List Value->Shared->Prop}(X:K.In s.heap)(I:ObjM s.heap x dx C mA)(hg:PySem.W.plainGet K C name=true)
  (hf:PySem.W.findIn K (.ref C) name=some (some (.ref f)))(ht:PySem.W.isFn K (.ref f)=true)(hv:mA name=none)(h:Q (.ref f,[.ref x]) s):
  wpAny (model prog w) A (getMethod (.ref x) name pl) Q E s:=by
 obtain⟨od,J,hl⟩:=I.look
 exact PySem.W.method_fn X J (PySem.W.plainGet_of hg).1 (PySem.W.plainGet_of hg).2 hf (beq_iff_eq.mp ht) (by show (PySem.W.lookIn name od).map (·.isSome)=some false;rw[hl,hv];rfl) h
theorem set_map {ns:List Str}{Q:Unit->Shared->Prop}(X:K.In s.heap)(I:ObjM s.heap x dx C mA)
  (hs:PySem.W.findIn K (.ref C) "__setattr__"=some (some (.builtin "object.__setattr__")))(hp:PySem.W.plainOver K C=true)(ht:PySem.W.takerIn K C name=some none)(hh:PySem.W.hasDictIn K C=true)
  (hw:PySem.Within mA ns)(hsz:ns.length<=sizeLine)
  (h:∀h',ObjM h' x dx C (λy=>if y=name then some v else mA y)->Heap.SameBut dx s.heap h'->Q () { s with heap:=h',toks:=s.toks+2 }):
  wpAny (model prog w) A (setAttr (.ref x) name v) Q E s:=by
 obtain⟨od,J,hl⟩:=I.look
 refine PySem.W.set_plain X J hs (PySem.W.osa_open (s:={ s with toks:=s.toks+1 }) (r:=none) X J hp ht λb=>?_)
 obtain⟨cd,hc,hd'⟩:=PySem.W.any_some hh
 have hx:s.heap.get? x=some ⟨.ref C,some dx, .plain,#[]⟩:=I.obj
 refine wpAny_bind (wpAny_pure (wpAny_bind (wpAny_bind (wpAny_loadPart hx (wpAny_bind (PySem.W.Looks.here (s:={ s with toks:=s.toks+1 }) (PySem.W.looks_clsIn X hc) ?_))))))
 rw[hd']
 refine wpAny_pure (a:=some dx) (wpAny_bind (wpAny_pure (wpAny_bind ?_)))
 refine wpAny_nsSet1 (s:={ s with toks:=s.toks+1 }) I.ns λh' hn2 hs2=>?_
 obtain⟨oD,esD,epD,hoD,hdD,hcD⟩:=hn2.count (PySem.Within.cons name v hw)
 refine wpAny_bind (wpAny_lookBehind hoD (by rw[hdD];exact pastItsLine_dict (l10 hcD (by rw[l8];omega))) ?_)
 exact wpAny_pure (h _ ⟨(hs2.2 _ (Ne.symm I.ne)).trans I.obj,hn2,I.ne⟩ hs2)
theorem make_map {R:Result->Shared->Prop}{vs:List Value}{kw:List (Str×Value)}(X:K.In s.heap)(hm:PySem.W.makesIn K C=true)
  (hi:PySem.W.findIn K (.ref C) "__init__"=some (some (.ref f)))(hf:PySem.W.typeIn K (.ref f)=some (.type "function"))
  (h:codeAny (model prog w) (A.under (.builtin "type.__call__" ⟨.ref C::vs,kw⟩)) (.call (.ref f) ⟨.ref (s.heap.objs.size+1)::vs,kw⟩) (PySem.W.InitBack (s.heap.objs.size+1) R)
   { s with heap:=(s.heap.push PySem.W.emptyDict).push (PySem.W.instObj C s.heap.objs.size) }):
  codeAny (model prog w) A (.call (.ref C) ⟨vs,kw⟩) R s:=by
 obtain⟨hh,g,d,t,os⟩:=s
 exact PySem.W.make_core (PySem.W.makes_of X hm) (PySem.W.looks_findIn X hi) (λself=>PySem.W.bind_fn X self hf) (.inl rfl) h
end
def putF (f:Str)(v:V):List (Str×V)->List (Str×V)
 | []=>[(f,v)]
 |(g,x)::r=>if g=f then (g,v)::r else (g,x)::putF f v r
theorem ga (f g:Str)(v:V):∀fs:List (Str×V),(putF f v fs).lookup g=if g=f then some v else fs.lookup g
 | []=>by
  show List.lookup g [(f,v)]=_
  by_cases h:g=f
  ·have hb:(g==f)=true:=beq_iff_eq.mpr h
   simp only[List.lookup,hb,if_pos h]
  ·have hb:(g==f)=false:=beq_eq_false_iff_ne.mpr h
   simp only[List.lookup,hb,if_neg h]
 |(k,x)::r=>by
  have ih:=ga f g v r
  rw[show putF f v ((k,x)::r)=(if k=f then (k,v)::r else (k,x)::putF f v r) from rfl]
  by_cases hk:k=f
  ·rw[if_pos hk]
   by_cases h:g=k
   ·have hb:(g==k)=true:=beq_iff_eq.mpr h
    simp only[List.lookup,hb,if_pos (h.trans hk)]
   ·have hb:(g==k)=false:=beq_eq_false_iff_ne.mpr h
    simp only[List.lookup,hb,if_neg (λe:g=f=>h (e.trans hk.symm))]
  ·rw[if_neg hk]
   by_cases h:g=k
   ·have hb:(g==k)=true:=beq_iff_eq.mpr h
    simp only[List.lookup,hb,if_neg (λe:g=f=>hk (h.symm.trans e))]
   ·have hb:(g==k)=false:=beq_eq_false_iff_ne.mpr h
    simp only[List.lookup,hb]
    exact ih
theorem ge (f:Str)(v:V):∀fs:List (Str×V),f∈(putF f v fs).map (·.1)/\∀g,g∈fs.map (·.1)->g∈(putF f v fs).map (·.1)
 | []=>⟨by simp[putF],λg h=>by simp at h⟩
 |(k,x)::r=>by
  obtain⟨i1,i2⟩:=ge f v r
  rw[show putF f v ((k,x)::r)=(if k=f then (k,v)::r else (k,x)::putF f v r) from rfl]
  by_cases hk:k=f
  ·rw[if_pos hk]
   subst hk
   exact⟨by simp,λg h=>by simpa using h⟩
  ·rw[if_neg hk]
   refine⟨?_,λg h=>?_⟩
   ·rw[l19]
    exact l15 _ i1
   ·rw[l19] at h ⊢
    rcases l9.mp h with e |e
    ·exact l9.mpr (.inl e)
    ·exact l15 _ (i2 g e)
theorem gf (f:Str)(v:V):∀fs:List (Str×V),(putF f v fs).length<=fs.length+1
 | []=>by simp[putF]
 |(k,x)::r=>by
  have ih:=gf f v r
  rw[show putF f v ((k,x)::r)=(if k=f then (k,v)::r else (k,x)::putF f v r) from rfl]
  by_cases hk:k=f
  ·rw[if_pos hk,l8,l8];omega
  ·rw[if_neg hk,l8,l8];omega
theorem RelO.some_of {v:V}{o:Option Value}(r:RelO (some v) o):∃u,o=some u/\RelV v u:=by
 cases o with
 |none=>exact(show False from r).elim
 |some u=>exact⟨u,rfl,r⟩
theorem RelO.none_of {o:Option Value}(r:RelO none o):o=none:=by
 cases o with
 |none=>rfl
 |some u=>exact(show False from r).elim
theorem oO {v:V}{u:Value}(r:RelV v u):PySem.W.handedIn u=true:=by
 cases v with
 |non=>cases (show u=Value.none from r);rfl
 |bl b=>cases (show u=Value.bool b from r);rfl
 |int i=>obtain⟨t,e⟩:=(show ∃t,u=Value.int i t from r);cases e;rfl
 |str x=>obtain⟨t,e⟩:=(show ∃t,u=Value.str x t from r);cases e;rfl
 |byt b=>obtain⟨t,e⟩:=(show ∃t,u=Value.bytes b t from r);cases e;rfl
 |flt b=>obtain⟨t,e⟩:=(show ∃t,u=Value.float b t from r);cases e;rfl
 |ref a=>cases (show u=Value.ref a from r);rfl
 |ty n=>cases (show u=Value.type n from r);rfl
section
variable {P:Program}{w:World}{H H':Hp}{h h':Heap}{a C dx:Addr}{fs fs':List (Str×V)}
theorem iK (hok:HOk P w H h)(e:H a=some (.ins C dx fs)):∃mA,ObjM h a dx C mA/\(∀f,RelO (fs.lookup f) (mA f))/\PySem.Within mA (fs.map (·.1))/\fs.length<=1000/\H dx=some (.own a):=by
 obtain⟨d,z,ne,ob,mA,n,r,q⟩:=(show ObjOk P w H h a (.ins C dx fs) from hok a _ e)
 exact⟨mA,⟨ob,n,ne⟩,r,q,z,d⟩
end
structure Cls (K:PySem.W.Frag)(C:Addr):Prop where
 pg:PySem.W.plainGet K C Str.empty=true
 hd:PySem.W.hasDictIn K C=true
 po:PySem.W.plainOver K C=true
 sa:PySem.W.findIn K (.ref C) "__setattr__"=some (some (.builtin "object.__setattr__"))
theorem Cls.get {K:PySem.W.Frag}{C:Addr}(c:Cls K C)(f:Str):PySem.W.plainGet K C f=true:=c.pg
def NoAttr (K:PySem.W.Frag)(C:Addr)(f:Str):Prop:=PySem.W.findIn K (.ref C) f=some none
theorem NoAttr.taker {K:PySem.W.Frag}{C:Addr}{f:Str}(n:NoAttr K C f):PySem.W.takerIn K C f=some none:=by
 unfold PySem.W.takerIn
 rw[show PySem.W.findIn K (.ref C) f=some none from n]
 rfl
structure Meth (K:PySem.W.Frag)(C:Addr)(m:Str)(f:Addr):Prop where
 at_:PySem.W.findIn K (.ref C) m=some (some (.ref f))
 fn:PySem.W.isFn K (.ref f)=true
 kp:PySem.W.keepIn K (.ref f)=true
section
variable {X:Cx}{pins:List (Addr×Obj)}{σ:St}{H:Hp}{s:Shared}{a C dx:Addr}{fs:List (Str×V)}{f:Str}{v:V}{A:Around}{E:Value->Shared->Prop}
theorem nz {b:Bool}{Q:Value->Shared->Prop}(I:Inv X pins σ H s)(e:H a=some (.ins C dx fs))(c:Cls X.K C)(n:NoAttr X.K C f)(l:fs.lookup f=some v)
  (h:∀u s',Inv X pins σ H s'->RelV v u->Q u s'):wpAny (model X.prog X.w) A (getAttr (.ref a) f b) Q E s:=by
 obtain⟨mA,O,r,_,_,_⟩:=iK I.hok e
 obtain⟨u,hu,ru⟩:=RelO.some_of (v:=v) (o:=mA f) (by rw[<- l];exact r f)
 exact get_map I.kIn O (c.get f) c.hd n hu (oO ru) (h u _ (I.tok _) ru)
theorem nA {m:Str}{g:Addr}{pl:Sem Bool}{Q:Value×List Value->Shared->Prop}(I:Inv X pins σ H s)(e:H a=some (.ins C dx fs))(c:Cls X.K C)(k:Meth X.K C m g)(l:fs.lookup m=none)
  (h:Q (.ref g,[.ref a]) s):wpAny (model X.prog X.w) A (getMethod (.ref a) m pl) Q E s:=by
 obtain⟨mA,O,r,_,_,_⟩:=iK I.hok e
 have hn:mA m=none:=RelO.none_of (by rw[<- l];exact r m)
 exact get_meth I.kIn O (c.get m) k.at_ k.fn hn h
theorem nH {y:V}{u:Value}{Q:Unit->Shared->Prop}(I:Inv X pins σ H s)(e:H a=some (.ins C dx fs))(c:Cls X.K C)(n:NoAttr X.K C f)(hl:fs.length < 1000)(ry:RelV y u)
  (h:∀s',Inv X pins σ (upd H a (.ins C dx (putF f y fs))) s'->Q () s'):wpAny (model X.prog X.w) A (setAttr (.ref a) f u) Q E s:=by
 obtain⟨mA,O,r,wi,_,ho⟩:=iK I.hok e
 have hz:(fs.map (·.1)).length<=sizeLine:=by rw[l6,sizeLine_eq];omega
 refine set_map I.kIn O c.sa c.po n.taker c.hd wi hz λh' O' sb=>h _ ?_
 have hd:∃o,h'.get? dx=some o:=let ⟨o,_,_,e',_⟩:=O'.ns;⟨o,e'⟩
 refine I.write (x:=a) (e:=dx) (by rw[e];exact True.intro) (.inr ho) (λb q hb z=>(sb.2 b hb).trans z) hd ?_
 refine⟨by rw[af O.ne];exact ho,?_,O.ne,O'.obj,_,O'.ns,λg=>?_,λg hg=>?_⟩
 ·have:=gf f y fs;omega
 ·show RelO ((putF f y fs).lookup g) (if g=f then some u else mA g)
  rw[ga]
  by_cases q:g=f
  ·rw[if_pos q,if_pos q];exact ry
  ·rw[if_neg q,if_neg q];exact r g
 ·by_cases q:g=f
  ·rw[q];exact(ge f y fs).1
  ·refine(ge f y fs).2 g (wi g λz=>hg ?_)
   show (if g=f then some u else mA g)=none
   rw[if_neg q];exact z
theorem Inv.made (I:Inv X pins σ H s):Inv X pins σ (upd (upd H s.heap.objs.size (.own (s.heap.objs.size+1))) (s.heap.objs.size+1) (.ins C s.heap.objs.size []))
  { s with heap:=(s.heap.push PySem.W.emptyDict).push (PySem.W.instObj C s.heap.objs.size) }:=by
 have e1:(s.heap.push PySem.W.emptyDict).get? s.heap.objs.size=some PySem.W.emptyDict:=Heap.get?_push_size s.heap rfl
 have e2:((s.heap.push PySem.W.emptyDict).push (PySem.W.instObj C s.heap.objs.size)).get? (s.heap.objs.size+1)=some (PySem.W.instObj C s.heap.objs.size):=by
  have:=Heap.get?_push_size (s.heap.push PySem.W.emptyDict) (o:=PySem.W.instObj C s.heap.objs.size) rfl
  rwa [Heap.size_push] at this
 have e3:(s.heap.push PySem.W.emptyDict).Ns s.heap.objs.size (λ_=>none):=⟨PySem.W.emptyDict,#[],_,e1,rfl,(λe he=>absurd he (by simp)),λ_=>rfl⟩
 have I1:=I.laid (a:=s.heap.objs.size) (o := .own (s.heap.objs.size+1)) (h':=s.heap.push PySem.W.emptyDict) (t':=s.toks) (λb u q=>Heap.get?_push_of_some _ q) (l7 _) ⟨_,e1⟩
 refine I1.laid (a:=s.heap.objs.size+1) (o := .ins C s.heap.objs.size []) (t':=s.toks) (λb u q=>Heap.get?_push_of_some _ q) (Nat.le_of_eq (Heap.size_push _ _)) ?_
 have ne:s.heap.objs.size≠s.heap.objs.size+1:=l29 (l76 _)
 refine⟨by rw[af ne,aa],l14 _,ne,e2,λ_=>none,(Heap.Ns1.of_empty e3).at λo q=>Heap.get?_push_of_some _ q,λ_=>True.intro,λy hy=>absurd rfl hy⟩
theorem attr_of {prog:Program}{w:World}{env:Env}{e:Expr}{f:Str}{pos:Pos}{s:Shared}{Q:Value->Shared->Prop}(hb:attributeBase e f env (eval e env)=eval e env)
  (h:wpAny (model prog w) A (eval e env) (λo s₁=>wpAny (model prog w) A (getAttr o f true) Q E s₁) E s):wpAny (model prog w) A (eval (.Attribute e f pos) env) Q E s:=
 Attribute_any_ h (by rw[arm_eval_Attribute,hb])
end
def tFld (K:PySem.W.Frag)(ta:TE)(f:Str):TE:=λσ H Q=>ta σ H λx H1=>∃a C dx fs v,x = .ref a/\H1 a=some (.ins C dx fs)/\Cls K C/\NoAttr K C f/\fs.lookup f=some v/\Q v H1
def sFld (K:PySem.W.Frag)(ta tv:TE)(f:Str):TS:=λD σ H=>tv σ H λy H1=>ta σ H1 λx H2=>∃a C dx fs,x = .ref a/\H2 a=some (.ins C dx fs)/\Cls K C/\NoAttr K C f/\fs.length < 1000 ∧
 D.nx σ (upd H2 a (.ins C dx (putF f y fs)))
section
variable {X:Cx}{o e value:Expr}{f:Str}{pos pos' tpos:Pos}{ta tv:TE}
theorem pe_fld (he:PE X e ta)(hb:attributeBase e f X.env (eval e X.env)=eval e X.env):PE X (.Attribute e f pos) (tFld X.K ta f):=by
 intro pins s σ H Q I h
 refine attr_of hb (thn (he pins s σ H _ I h) λu s1 ⟨x,H1,I1,rx,a,C,dx,fs,v,ex,ea,c,n,l,q⟩=>?_)
 subst ex
 obtain rfl:u=Value.ref a:=rx
 exact nz I1 ea c n l λu' s2 I2 ru=>⟨v,H1,I2,ru,q⟩
theorem ps_fld (ha:PE X o ta)(hv:PE X value tv)(hs:swapsWith value (some (.Attribute o f pos')) pos.line X.env=pure false):PS X (.Assign [.Attribute o f pos'] value pos) (sFld X.K ta tv f):=by
 intro pins s σ H D I h
 refine plainObj_wpAny_Assign_Attribute (thn (hv pins s σ H _ I h) λu s1 ⟨y,H1,I1,ry,q⟩=>thn (ha pins s1 σ H1 _ I1 q) λov s2 ⟨x,H2,I2,rx,a,C,dx,fs,ex,ea,c,n,l,q2⟩=>?_) hs
 subst ex
 obtain rfl:ov=Value.ref a:=rx
 exact nH I2 ea c n l ry λs3 I3=>⟨σ,_,I3,q2⟩
end
section
variable {X:Cx}{pins:List (Addr×Obj)}{σ:St}{H:Hp}{s:Shared}{A:Around}{E:Value->Shared->Prop}{Q:Value->Shared->Prop}{c:Value}{b:Bool}
inductive TyOf (K:PySem.W.Frag)(H:Hp):V->Value->Prop where
 |non:TyOf K H .non (.type "NoneType")
 |bl (x:Bool):TyOf K H (.bl x) (.type "bool")
 |int (i:Int):TyOf K H (.int i) (.type "int")
 |str (x:Str):TyOf K H (.str x) (.type "str")
 |flt (x:UInt64):TyOf K H (.flt x) (.type "float")
 |lst {a:Addr} {xs:List V} (e:H a=some (.lst xs)):TyOf K H (.ref a) (.type "list")
 |frz {a:Addr} {o:Obj} {xs:List V} (e:H a=some (.frz o (.lst xs))):TyOf K H (.ref a) (.type "list")
 |tup {a:Addr} {xs:List V} (e:H a=some (.tup xs)):TyOf K H (.ref a) (.type "tuple")
 |dK {a:Addr} {kvs:List (Key×V)} (e:H a=some (.dK kvs)):TyOf K H (.ref a) (.type "dict")
 |dT {a:Addr} {kvs:List (List Key×V)} (e:H a=some (.dT kvs)):TyOf K H (.ref a) (.type "dict")
 |ins {a C dx:Addr} {fs:List (Str×V)} (e:H a=some (.ins C dx fs)) (cl:Cls K C) (ha:PySem.W.findIn K (.ref C) "__class__"=some (some (.builtin "object.__class__")))
   (hn:PySem.W.specialIn K (.builtin "object.__class__") "__get__"=some (some (.builtin "getset_descriptor.__get__"))) (htk:PySem.W.takesIn K (.builtin "object.__class__")=some true)
   (hm:PySem.W.mroIn K C (.type "object")=some true):TyOf K H (.ref a) (.ref C)
theorem jA {x:V}{u t:Value}(I:Inv X pins σ H s)(rx:RelV x u)(ty:TyOf X.K H x t)(e:PySem.W.kitOne X.K t c=some b)(h:∀tk,Q (.bool b) { s with toks:=tk }):
  wpAny (model X.prog X.w) A (call (.builtin "isinstance") [u,c]) Q E s:=by
 cases ty with
 |non=>cases (show u=Value.none from rx);exact PySem.W.kia_one PySem.W.kitx_none I.kIn True.intro e (λz=>nomatch z) h
 |bl y=>cases (show u=Value.bool y from rx);exact PySem.W.kia_one PySem.W.kitx_bool I.kIn True.intro e (λz=>nomatch z) h
 |int i=>obtain⟨t,q⟩:=(show ∃t,u=Value.int i t from rx);cases q;exact PySem.W.kia_one PySem.W.kitx_int I.kIn True.intro e (λz=>nomatch z) h
 |str y=>obtain⟨t,q⟩:=(show ∃t,u=Value.str y t from rx);cases q;exact PySem.W.kia_one PySem.W.kitx_str I.kIn True.intro e (λz=>nomatch z) h
 |flt y=>obtain⟨t,q⟩:=(show ∃t,u=Value.float y t from rx);cases q;exact PySem.W.kia_one PySem.W.kitx_float I.kIn True.intro e (λz=>nomatch z) h
 | @lst a xs ea=>
  cases (show u=Value.ref a from rx)
  obtain⟨_,_,n,_,h1⟩:=(show ObjOk X.prog X.w H s.heap a (.lst xs) from I.hok a _ ea)
  exact PySem.W.kia_one PySem.W.kitx_list I.kIn ⟨_,h1,rfl⟩ e (λz=>nomatch z) h
 | @frz a ob xs ea=>
  cases (show u=Value.ref a from rx)
  obtain⟨_,_,_,n,_,h1⟩:=(show ObjOk X.prog X.w H s.heap a (.frz ob (.lst xs)) from I.hok a _ ea)
  exact PySem.W.kia_one PySem.W.kitx_list I.kIn ⟨_,h1,rfl⟩ e (λz=>nomatch z) h
 | @tup a xs ea=>
  cases (show u=Value.ref a from rx)
  obtain⟨_,_,_,p⟩:=(show ObjOk X.prog X.w H s.heap a (.tup xs) from I.hok a _ ea)
  obtain⟨o,h1,h2,_⟩:=p
  exact PySem.W.kia_one PySem.W.kitx_tuple I.kIn ⟨o,h1,h2⟩ e (λz=>nomatch z) h
 | @dK a kvs ea=>
  cases (show u=Value.ref a from rx)
  obtain⟨_,_,vs,_,p⟩:=(show ObjOk X.prog X.w H s.heap a (.dK kvs) from I.hok a _ ea)
  obtain⟨o,es,ep,h1,h2,_⟩:=p
  exact PySem.W.kia_one PySem.W.kitx_dict I.kIn ⟨o,h1,h2.1⟩ e (λz=>nomatch z) h
 | @dT a kvs ea=>
  cases (show u=Value.ref a from rx)
  obtain⟨_,_,xs,_,o,es,ep,h1,h2,_⟩:=(show ObjOk X.prog X.w H s.heap a (.dT kvs) from I.hok a _ ea)
  exact PySem.W.kia_one PySem.W.kitx_dict I.kIn ⟨o,h1,h2.1⟩ e (λz=>nomatch z) h
 | @ins a C dx fs ea cl ha hn htk hm=>
  cases (show u=Value.ref a from rx)
  obtain⟨mA,O,_⟩:=iK I.hok ea
  obtain⟨od,J,_⟩:=O.look
  exact PySem.W.kia_one (PySem.W.kitx_own (cl.get _) cl.hd ha hn htk hm) I.kIn J e (λz=>nomatch z) h
end
structure Room (k:Nat)(A:Around):Prop where
 hd:A.handled=none
 dp:A.depth+3 * k+5 < recursionLimit
 un:A.units+16 * k+200 < cLine
theorem Room.mono {j k:Nat}{A:Around}(r:Room k A)(h:j<=k):Room j A:=⟨r.hd,by have:=r.dp;omega,by have:=r.un;omega⟩
theorem Room.deeper {k:Nat}{A:Around}(r:Room (k+1) A)(env:Env):Room k (A.deeper env):=
 ⟨r.hd,by have:=r.dp;show A.depth+1+3 * k+5 < _;omega,by have:=r.un;show A.units+3+16 * k+200 < _;omega⟩
theorem nI {A:Around}{C:Addr}{us:List Value}{kw:List (Str×Value)}:(A.under (.builtin "type.__call__" ⟨.ref C::us,kw⟩)).depth=A.depth+1:=by
 first |rfl |simp[Around.under,Code.weight,Code.isCreation,Code.isGuard,Code.isCaller,Code.frames,Code.isFrame,guardIds]
theorem nJ {A:Around}{C:Addr}{us:List Value}{kw:List (Str×Value)}:(A.under (.builtin "type.__call__" ⟨.ref C::us,kw⟩)).units=A.units+1:=by
 first |rfl |simp[Around.under,Code.cUnits,Code.frames,Code.isFrame]
theorem Room.make {k:Nat}{A:Around}(r:Room (k+1) A)(C:Addr)(us:List Value)(kw:List (Str×Value)):Room k (A.under (.builtin "type.__call__" ⟨.ref C::us,kw⟩)):=
 ⟨r.hd,by have:=r.dp;rw[nI];omega,by have:=r.un;rw[nJ];omega⟩
theorem Room.depth {k:Nat}{A:Around}(r:Room k A):A.depth < recursionLimit:=by have:=r.dp;omega
def tNil:TA:=λ_ H Q=>Q [] H
def aE (ta:TE)(tr:TA):TA:=λσ H Q=>ta σ H λx H1=>tr σ H1 λxs H2=>Q (x::xs) H2
section
variable {X:Cx}{e:Expr}{es:List Expr}{te:TE}{t:TA}{pos:Pos}
theorem pa_nil:PA X [] tNil:=λ_ _ _ _ H Q I h=>Calls.spliced_nil ⟨[],H,I, .nil,h⟩
theorem pa_cons (ha:PE X e te)(hr:PA X es t)(hs:starEach (e::es) X.env=(false,eval e X.env)::starEach es X.env:=by rfl):PA X (e::es) (aE te t):=by
 intro pos pins s σ H Q I h
 rw[hs]
 show wpAny _ _ (spliced ((false,eval e X.env)::backTo pos (starEach es X.env))) _ _ s
 refine Calls.spliced_cons (thn (ha pins s σ H _ I h) λu s1 ⟨x,H1,I1,r1,q1⟩=>?_)
 exact thn (hr pos pins s1 σ H1 _ I1 q1) λus s2 ⟨xs,H2,I2,r2,q2⟩=>⟨x::xs,H2,I2, .cons r1 r2,q2⟩
def tTup (t:TA):TE:=λσ H Q=>t σ H λxs H1=>xs.length<=sizeLine/\∀p,H1 p=none->Q (.ref p) (upd H1 p (.tup xs))
def tLst (t:TA):TE:=λσ H Q=>t σ H λxs H1=>xs.length<=sizeLine/\∀p,H1 p=none->Q (.ref p) (upd H1 p (.lst xs))
theorem pe_tup {x1}(h:PA X es t):PE X (.Tuple es x1 pos) (tTup t):=by
 intro pins s σ H Q I hq
 refine wpAny_Tuple_spliced (thn (h pos pins s σ H _ I hq) λus s1 ⟨xs,H1,I1,r,z,q⟩=>⟨by rw[<- r.length];exact z,?_⟩)
 have hf:H1 s1.heap.objs.size=none:=I1.hok.fresh (l7 _)
 refine⟨.ref s1.heap.objs.size,upd H1 s1.heap.objs.size (.tup xs),I1.laid (t':=s1.toks) (λb u e=>Heap.get?_push_of_some _ e) (l7 _) ?_,rfl,q _ hf⟩
 exact⟨z,us,r,⟨_,Heap.get?_push_size _ rfl,rfl,_,rfl⟩⟩
theorem pe_lst (h:PA X es t):PE X (.List es pos) (tLst t):=by
 intro pins s σ H Q I hq
 refine wpAny_List_spliced (thn (h pos pins s σ H _ I hq) λus s1 ⟨xs,H1,I1,r,z,q⟩=>⟨by rw[<- r.length];exact z,?_⟩)
 have hf:H1 s1.heap.objs.size=none:=I1.hok.fresh (l7 _)
 refine⟨.ref s1.heap.objs.size,upd H1 s1.heap.objs.size (.lst xs),I1.laid (t':=s1.toks) (λb u e=>Heap.get?_push_of_some _ e) (l7 _) ?_,rfl,q _ hf⟩
 exact⟨z,us,0,r,Heap.get?_push_size _ rfl⟩
end
abbrev Sp:=List V->Hp->VK->XK->Prop
abbrev CXT:=List Env->Hp->Shared->XK->Value->Shared->Prop
structure Env0 (P:Program)(w:World)(K:PySem.W.Frag)(mg:Str->Option Value)(base:Heap)(A:Around)(outer:List Env)(s:Shared)(H:Hp):Prop where
 frames:A.frames=some outer
 mod:Mod K mg base
 bs:∀b o,base.get? b=some o->s.heap.get? b=some o/\H b=none
 bsz:base.objs.size<=s.heap.objs.size
 funs:s.heap.FunFrames base outer
 frf:∀b∈frs outer,H b=none
 hok:HOk P w H s.heap
 bare:AllBare s.gens
 tk:0 < s.toks
def CE (outer:List Env)(P:Program)(w:World)(H:Hp)(s:Shared)(Q:VK)(u:Value)(s':Shared):Prop:=
 ∃v H',s'.os=s.os/\AllBare s'.gens/\Un (frs outer) [] H H' s.heap s'.heap/\HOk P w H' s'.heap/\0 < s'.toks/\RelV v u/\Q v H'
def CR (CX:CXT)(outer:List Env)(P:Program)(w:World)(H:Hp)(s:Shared)(Q:VK)(E:XK)(r:Result)(s':Shared):Prop:=
 match r with
 | .ok (.ret u)=>CE outer P w H s Q u s'
 | .ok _=>False
 | .error e=>CX outer H s E e s'
structure FnOk (P:Program)(w:World)(K:PySem.W.Frag)(mg:Str->Option Value)(base:Heap)(CX:CXT)(k:Nat)(f:Addr)(fd:FuncData)(ps:List Str)(sp:Sp):Prop where
 len:∀vs H Q E,sp vs H Q E->vs.length=ps.length
 run:∀(A:Around) (outer:List Env) (s:Shared) (H:Hp) (args:Args) (us:List Value) (vs:List V) (Q:VK) (E:XK),Room k A->Env0 P w K mg base A outer s H->BindsTo s fd args (ps.zip us)->Vals vs us->sp vs H Q E →
  codeAny (model P w) A (.call (.ref f) args) (CR CX outer P w H s Q E) s
theorem FnOk.mono {P:Program}{w:World}{K:PySem.W.Frag}{mg:Str->Option Value}{base:Heap}{CX:CXT}{j k:Nat}{f:Addr}{fd:FuncData}{ps:List Str}{sp:Sp}(F:FnOk P w K mg base CX j f fd ps sp)(h:j<=k):
  FnOk P w K mg base CX k f fd ps sp:=⟨F.len,λA outer s H args us vs Q E hr=>F.run A outer s H args us vs Q E (hr.mono h)⟩
theorem Env0.make {P:Program}{w:World}{K:PySem.W.Frag}{mg:Str->Option Value}{base:Heap}{A:Around}{outer:List Env}{s:Shared}{H:Hp}(e:Env0 P w K mg base A outer s H)(C:Addr)(us:List Value)(kw:List (Str×Value)):
  Env0 P w K mg base (A.under (.builtin "type.__call__" ⟨.ref C::us,kw⟩)) outer s H:=⟨by first |exact e.frames |(simpa[Around.under,Code.envs,Code.isFrame,pushEnvs] using e.frames),e.mod,e.bs,e.bsz,e.funs,e.frf,e.hok,e.bare,e.tk⟩
section
variable {X:Cx}{pins:List (Addr×Obj)}{σ:St}{H:Hp}{s s':Shared}
theorem Inv.env0 (I:Inv X pins σ H s):Env0 X.prog X.w X.K X.mg X.base X.A X.stack s H:=
 ⟨I.ok.frames,I.ok.mod,I.bs,l10 I.ok.bsz I.sz,I.stack,I.stkFree,I.hok,I.bare,I.tk⟩
theorem Inv.after {Q:VK}{u:Value}(I:Inv X pins σ H s)(h:CE X.stack X.prog X.w H s Q u s'):EP X pins σ Q u s':=by
 obtain⟨v,H',os,bare,un,hok,tk',r,q⟩:=h
 obtain⟨hh,g,d,t,os'⟩:=s'
 obtain rfl:os'=s.os:=os
 exact⟨v,H',I.call (h':=hh) (g':=g) (d':=d) (t':=t) (ch:=[]) un hok bare (λb z=>absurd z (by simp)) tk',r,q⟩
end
def cG (sp:Sp)(dvs:List V)(E:XK)(t:TA):TE:=λσ H Q=>t σ H λvs H1=>sp (vs++dvs) H1 Q E
def tMake (C:Addr)(sp:Sp)(dvs:List V)(E:XK)(t:TA):TE:=λσ H Q=>t σ H λvs H1=>∀x dx,H1 x=none->H1 dx=none->dx≠x →
 sp (.ref x::(vs++dvs)) (upd (upd H1 dx (.own x)) x (.ins C dx [])) (λv H2=>v = .non/\Q (.ref x) H2) E
def Binds (K:PySem.W.Frag)(fd:FuncData)(ps:List Str)(ds:List Value):Prop:=
 ∀(s:Shared) (us:List Value),K.In s.heap->(us++ds).length=ps.length->BindsTo s fd ⟨us,[]⟩ (ps.zip (us++ds))
theorem Binds.all {K:PySem.W.Frag}{fd:FuncData}{ps:List Str}(h:∀us:List Value,us.length=ps.length->bindArgs fd ⟨us,[]⟩=pure (ps.zip us)):Binds K fd ps []:=λs us _ hl=>by
 rw[l31] at hl ⊢
 exact .of_eq (h us hl)
def jB (CX:CXT)(X:Cx)(E:XK):Prop:=∀(pins:List (Addr×Obj)) (σ:St) (H:Hp) (s:Shared) (e:Value) (s':Shared),Inv X pins σ H s->CX X.stack H s E e s'->X.xe e s'
section
variable {X:Cx}{CX:CXT}{k:Nat}{f C:Addr}{fd:FuncData}{ps:List Str}{sp:Sp}{dvs:List V}{ds:List Value}{E:XK}{x m:Str}{p pos apos:Pos}{e o:Expr}{es:List Expr}{ta:TE}{t:TA}
theorem run_fn {pins:List (Addr×Obj)}{σ:St}{H:Hp}{s:Shared}{Q:VK}{us:List Value}{vs:List V}(F:FnOk X.prog X.w X.K X.mg X.base CX k f fd ps sp)(hr:Room k X.A)(hb:Binds X.K fd ps ds)(hd:Vals dvs ds)(hx:jB CX X E)
  (I:Inv X pins σ H s)(r:Vals vs us)(h:sp (vs++dvs) H Q E):wpAny (model X.prog X.w) X.A (call (.ref f) us) (EP X pins σ Q) X.xe s:=by
 have r2:Vals (vs++dvs) (us++ds):=r.append hd
 have hl:(us++ds).length=ps.length:=by rw[<- r2.length];exact F.len _ _ _ _ h
 refine wpAny_call (codeAny_mono (F.run X.A X.stack s H ⟨us,[]⟩ (us++ds) (vs++dvs) Q E hr I.env0 (hb s us I.kIn hl) r2 h) λr s' hq=>?_)
 cases r with
 |error e=>exact hx pins σ H s e s' I hq
 |ok fl=>
  cases fl with
  |ret u=>exact I.after hq
  |next=>exact False.elim hq
  |brk=>exact False.elim hq
  |cont=>exact False.elim hq
theorem pe_call (F:FnOk X.prog X.w X.K X.mg X.base CX k f fd ps sp)(hr:Room k X.A)(hg:Gl X x)(hm:X.mg x=some (.ref f))(hk:PySem.W.keepIn X.K (.ref f)=true)(hb:Binds X.K fd ps ds)(hd:Vals dvs ds)(hx:jB CX X E)
  (ha:PA X (e::es) t)(hdb:(x==("__debug__":Str))=false:=by decide) (he:starEach (e::es) X.env=(false,eval e X.env)::starEach es X.env:=by rfl) (hpl:(backTo pos (starEach es X.env)).any (·.1)=false:=by rfl):
  PE X (.Call (.Name x p) (e::es) [] pos) (cG sp dvs E t):=by
 intro pins s σ H Q I h
 refine wpAny_Call_Name_kw (kO I hg hm ?_ hdb)
 refine PySem.W.callWith_K (h₀:=X.base) I.ok.mod.kin hk (thn (ha pos pins s σ H _ I h) λus s1 ⟨vs,H1,I1,r,q⟩=>⟨I1.kIn,?_⟩) he hpl
 exact run_fn F hr hb hd hx I1 r q
structure Mk (K:PySem.W.Frag)(C f:Addr):Prop where
 makes:PySem.W.makesIn K C=true
 init:PySem.W.findIn K (.ref C) "__init__"=some (some (.ref f))
 fn:PySem.W.isFn K (.ref f)=true
 kp:PySem.W.keepIn K (.ref C)=true
theorem run_make {pins:List (Addr×Obj)}{σ:St}{H:Hp}{s:Shared}{Q:VK}{us:List Value}{vs:List V}(M:Mk X.K C f)(F:FnOk X.prog X.w X.K X.mg X.base CX k f fd ps sp)(hr:Room (k+1) X.A)(hb:Binds X.K fd ps ds)(hd:Vals dvs ds)
  (hx:jB CX X E)(I:Inv X pins σ H s)(r:Vals vs us)
  (h:∀x dx,H x=none->H dx=none->dx≠x->sp (.ref x::(vs++dvs)) (upd (upd H dx (.own x)) x (.ins C dx [])) (λv H2=>v = .non/\Q (.ref x) H2) E):
  wpAny (model X.prog X.w) X.A (call (.ref C) us) (EP X pins σ Q) X.xe s:=by
 have hq:=h (s.heap.objs.size+1) s.heap.objs.size (I.hok.fresh (Nat.le_succ _)) (I.hok.fresh (l7 _)) (l29 (l76 _))
 have I2:=Inv.made (C:=C) I
 have r2:Vals (V.ref (s.heap.objs.size+1)::(vs++dvs)) (Value.ref (s.heap.objs.size+1)::(us++ds)) := .cons rfl (r.append hd)
 have hl:(Value.ref (s.heap.objs.size+1)::us++ds).length=ps.length:=by
  have e:=r2.length
  rw[F.len _ _ _ _ hq] at e
  exact e.symm
 refine wpAny_call (make_map (f := f) I.kIn M.makes M.init (beq_iff_eq.mp M.fn) (codeAny_mono (F.run _ X.stack _ _ ⟨Value.ref (s.heap.objs.size+1)::us,[]⟩ (Value.ref (s.heap.objs.size+1)::(us++ds)) _ _ E (hr.make C us [])
  (I2.env0.make C us []) (hb _ (Value.ref (s.heap.objs.size+1)::us) I2.kIn hl) r2 hq) λr s' hq'=>?_))
 cases r with
 |error e=>exact hx pins σ _ _ e s' I2 hq'
 |ok fl=>
  cases fl with
  |ret u=>
   obtain⟨v,H',I3,rv,ev,q3⟩:=I2.after hq'
   subst ev
   exact⟨rv,⟨V.ref (s.heap.objs.size+1),H',I3,rfl,q3⟩⟩
  |next=>exact False.elim hq'
  |brk=>exact False.elim hq'
  |cont=>exact False.elim hq'
theorem pe_make (M:Mk X.K C f)(F:FnOk X.prog X.w X.K X.mg X.base CX k f fd ps sp)(hr:Room (k+1) X.A)(hg:Gl X x)(hm:X.mg x=some (.ref C))(hb:Binds X.K fd ps ds)(hd:Vals dvs ds)(hx:jB CX X E)
  (ha:PA X (e::es) t)(hdb:(x==("__debug__":Str))=false:=by decide) (he:starEach (e::es) X.env=(false,eval e X.env)::starEach es X.env:=by rfl) (hpl:(backTo pos (starEach es X.env)).any (·.1)=false:=by rfl):
  PE X (.Call (.Name x p) (e::es) [] pos) (tMake C sp dvs E t):=by
 intro pins s σ H Q I h
 refine wpAny_Call_Name_kw (kO I hg hm ?_ hdb)
 refine PySem.W.callWith_K (h₀:=X.base) I.ok.mod.kin M.kp (thn (ha pos pins s σ H _ I h) λus s1 ⟨vs,H1,I1,r,q⟩=>⟨I1.kIn,?_⟩) he hpl
 exact run_make M F hr hb hd hx I1 r q
end
structure FnScope (N P:List Str)(sc:Scope):Prop where
 kind:sc.kind = .function
 co:sc.isCoroutine=false
 gen:sc.isGenerator=false
 nd:N.Nodup
 pre:N.take P.length=P
 par:∀x∈P,sc.names.lookup x=some .local ∨ sc.names.lookup x=some .cell
 nofree:∀y∈sc.names,y.2 ≠ .free
theorem mkS {N P:List Str}{sc:Scope}(a:sc.kind = .function:=by rfl) (b:sc.isCoroutine=false:=by rfl) (c:sc.isGenerator=false:=by rfl) (d:N.Nodup:=by decide +kernel) (e:N.take P.length=P:=by rfl) (f:∀x∈P,sc.names.lookup x=some .local ∨ sc.names.lookup x=some .cell:=by decide +kernel) (g:∀y∈sc.names,y.2 ≠ .free:=by decide +kernel):FnScope N P sc:=⟨a,b,c,d,e,f,g⟩
theorem jC {kindOf:Str->Option NameKind}{x:Str}:∀{binds:List (Str×Value)} {m:Str->Option Value},(∀v,(x,v)∉binds)->bindL kindOf binds m x=m x
 | [],_,_=>rfl
 |(n,v)::r,m,h=>by
  unfold bindL
  rw[jC λw hw=>h w (l15 _ hw)]
  split
  ·have:x≠n:=by rintro rfl;exact h v l13
   simp[this]
  ·rfl
theorem jD {kindOf:Str->Option NameKind}{x:Str}:∀{binds:List (Str×Value)} {m:Str->Option Value},(∀v,(x,v)∉binds)->bindC kindOf binds m x=m x
 | [],_,_=>rfl
 |(n,v)::r,m,h=>by
  unfold bindC
  rw[jD λw hw=>h w (l15 _ hw)]
  split
  ·rfl
  ·have:x≠n:=by rintro rfl;exact h v l13
   simp[this]
theorem jE {kindOf:Str->Option NameKind}{x:Str}{v:Value}:∀{P:List Str} {vs:List Value} {i:Nat} {m:Str->Option Value},P.Nodup->P[i]? = some x->vs[i]? = some v->kindOf x=some .local →
  bindL kindOf (P.zip vs) m x=some v
 | [],_,_,_,_,h,_,_=>by simp at h
 |_::_,[],_,_,_,_,h,_=>by simp at h
 |p::P,w::vs,0,m,nd,h1,h2,hk=>by
  simp at h1 h2;subst h1;subst h2
  show bindL kindOf ((p,w)::P.zip vs) m p=_
  unfold bindL
  rw[jC λv hv=>(l46.mp nd).1 (List.of_mem_zip hv).1,if_pos hk]
  simp
 |p::P,w::vs,i+1,m,nd,h1,h2,hk=>by
  show bindL kindOf ((p,w)::P.zip vs) m x=_
  unfold bindL
  exact jE (i:=i) (l46.mp nd).2 (by simpa using h1) (by simpa using h2) hk
theorem jF {kindOf:Str->Option NameKind}{x:Str}{v:Value}:∀{P:List Str} {vs:List Value} {i:Nat} {m:Str->Option Value},P.Nodup->P[i]? = some x->vs[i]? = some v->kindOf x≠some .local →
  bindC kindOf (P.zip vs) m x=some v
 | [],_,_,_,_,h,_,_=>by simp at h
 |_::_,[],_,_,_,_,h,_=>by simp at h
 |p::P,w::vs,0,m,nd,h1,h2,hk=>by
  simp at h1 h2;subst h1;subst h2
  show bindC kindOf ((p,w)::P.zip vs) m p=_
  unfold bindC
  rw[jD λv hv=>(l46.mp nd).1 (List.of_mem_zip hv).1,if_neg hk]
  simp
 |p::P,w::vs,i+1,m,nd,h1,h2,hk=>by
  show bindC kindOf ((p,w)::P.zip vs) m x=_
  unfold bindC
  exact jF (i:=i) (l46.mp nd).2 (by simpa using h1) (by simpa using h2) hk
def aS (N:List Str)(vs:List V):St:=vs.map some++List.replicate (N.length - vs.length) none
def cxOf (CX:CXT)(P:Program)(w:World)(K:PySem.W.Frag)(mg:Str->Option Value)(base:Heap)(N:List Str)(qual:Str)(scope:Scope)(f:Addr)(cd:Value)(A:Around)(outer:List Env)(s:Shared)(H:Hp)(E:XK):Cx where
 prog:=P
 w:=w
 K:=K
 mg:=mg
 base:=base
 A:=A.deeper (envOfC qual scope s.heap.objs.size f cd)
 N:=N
 s₀:=s
 H₀:=H
 env:=envOfC qual scope s.heap.objs.size f cd
 outer:=outer
 stack:=envOfC qual scope s.heap.objs.size f cd::outer
 ex:=[]
 calm:=true
 fn:=λ_=>true
 pn:=[]
 xe:=λe s'=>wpAny (model P w) (A.deeper (envOfC qual scope s.heap.objs.size f cd)) (leaving (envOfC qual scope s.heap.objs.size f cd) e) (λ_ s''=>CX outer H s E e s'') (λe' s''=>CX outer H s E e' s'') s'
theorem mr {sc:Scope}{n:Nat}{x:Str}(h:sc.names.lookup x=some .cell):∃c,(cellsFrom n sc.names []).lookup x=some c:=by
 have q:=PySem.W.cellsFrom_some sc.names n [] (.inl h)
 exact l85.mp q
theorem oP {CX:CXT}{P:Program}{w:World}{K:PySem.W.Frag}{mg:Str->Option Value}{base:Heap}{N ps:List Str}{qual:Str}{scope:Scope}{f:Addr}{cd:Value}{A:Around}{outer:List Env}{s s1:Shared}{H:Hp}{E:XK}{us:List Value}{vs:List V}
  (S:FnScope N ps scope)(hd:A.handled=none)(e0:Env0 P w K mg base A outer s H)(hl:vs.length=ps.length)(r:Vals vs us)(htk:0 < s1.toks)
  (x:InCallC s s.heap.objs.size (bindL (envOfC qual scope s.heap.objs.size f cd).kindOf (ps.zip us) λ_=>none) (cellsFrom (s.heap.objs.size+1) scope.names []) (bindC (envOfC qual scope s.heap.objs.size f cd).kindOf (ps.zip us) λ_=>none) s1):
  Inv (cxOf CX P w K mg base N qual scope f cd A outer s H E) [] (aS N vs) H s1:=by
 have hpl:ps.length<=N.length:=by have:=congrArg List.length S.pre;rw[l33] at this;omega
 obtain⟨h1,tk,rfl,hk⟩:=x.done
 have noA:∀b:Addr,b∉(cxOf CX P w K mg base N qual scope f cd A outer s H E).ex:=λb z=>absurd (show b∈([]:List Addr) from z) (by simp)
 refine ⟨⟨e0.mod,S.kind,rfl,rfl,l7 _,λy z c h1 h2=>?_,λy hy=>?_,λy c _ h=>?_,λ_=>hd,Around.frames_deeper e0.frames, .inr ⟨rfl,rfl⟩,λb z=>absurd z (noA b),e0.bs,e0.bsz,λb _ _=>noA b,λb z=>absurd z (noA b),e0.funs,e0.frf⟩,
  rfl,e0.bare,Un.kept hk,⟨_,x.toInCall.ns,λi y v h1 h2 h3=>?_⟩,λy c h=>⟨_,x.cell y c h⟩,e0.hok.fresh (l7 _),λy c h=>?_,λp hp=>absurd (show p∈([]:List (Addr×Obj)) from hp) (by simp),e0.hok.kept hk,?_,htk⟩
 ·exact name_of_addr x.apart (PySem.mem_of_lookup h1) (PySem.mem_of_lookup h2)
 ·have hy:scope.names.lookup y=some .cell ∨ scope.names.lookup y=some .free:=hy
  rcases hy with hy |hy
  ·exact mr hy
  ·exact absurd rfl (S.nofree _ (PySem.mem_of_lookup hy))
 ·exact Nat.le_of_lt (x.above y c (PySem.mem_of_lookup h))
 ·have hi:i < vs.length:=by
   unfold aS at h2
   by_cases hi:i < vs.length
   ·exact hi
   ·rw[List.getElem?_append_right (by simpa using hi)] at h2
    rw[List.getElem?_replicate] at h2
    split at h2 <;> cases h2
  have ha:vs[i]? = some v:=by
   unfold aS at h2
   rw[List.getElem?_append_left (by simpa using hi),List.getElem?_map] at h2
   cases e:vs[i]? with
   |none=>rw[e] at h2;cases h2
   |some a=>rw[e] at h2;cases h2;rfl
  obtain⟨u,hu,rv⟩:=r.get ha
  have hp:ps[i]? = some y:=by
   rw[<- S.pre,List.getElem?_take_of_lt (by omega)];exact h1
  have ndP:ps.Nodup:=by rw[<- S.pre];exact S.nd.sublist (List.take_sublist _ _)
  refine⟨u,rv,?_⟩
  rcases S.par y (l17 hp) with k |k
  ·exact .inl ⟨k,jE ndP hp hu k⟩
  ·obtain⟨c,e⟩:=mr (n:=s.heap.objs.size+1) k
   refine .inr ⟨.inl k,c,e,?_⟩
   have q:=x.cell y c e
   rw[jF ndP hp hu (by show scope.names.lookup y≠_;rw[k];decide)] at q
   exact q
 ·exact e0.hok.fresh (Nat.le_of_lt (x.above y c (PySem.mem_of_lookup h)))
 ·unfold aS
  show _=N.length
  rw[l5,l6,l77]
  omega
theorem fn_of {CX:CXT}{P:Program}{w:World}{K:PySem.W.Frag}{mg:Str->Option Value}{base:Heap}{k:Nat}{f:Addr}{name qual:Str}{params:Arguments}{body:List Stmt}{scope:Scope}{dV kV doc pm cdv ct oc:Value}{an od:Option Addr}
  {osl:Array (Option Value)}{N ps:List Str}{sp:Sp}(lk:K.lookup f=some ⟨oc,od, .func (PySem.W.fnOf name qual params body scope dV kV doc pm an cdv ct),osl⟩)(hcd:PySem.W.codeIn K cdv qual=true)(S:FnScope N ps scope)
  (len:∀vs H Q E,sp vs H Q E->vs.length=ps.length)
  (hbody:∀(A:Around)(outer:List Env)(s:Shared)(H:Hp)(vs:List V)(Q:VK)(E:XK),Room k (A.deeper (envOfC qual scope s.heap.objs.size f cdv))->sp vs H Q E →
   ∃t,PSs (cxOf CX P w K mg base N qual scope f cdv A outer s H E) body t/\t { nx:=λ_ H'=>Q .non H',rt:=Q } (aS N vs) H):
  FnOk P w K mg base CX (k+1) f (PySem.W.fnOf name qual params body scope dV kV doc pm an cdv ct) ps sp:=by
 refine⟨len,λA outer s H args us vs Q E hr e0 hb r hsp=>?_⟩
 have hl:=len _ _ _ _ hsp
 have KX:K.In s.heap:=e0.mod.kin.keeps λb o e=>(e0.bs b o e).1
 have lim:s.heap.NoLimit:=e0.mod.nolimit.keeps λb o e=>(e0.bs b o e).1
 have hkind:∀y∈ps.zip us,scope.names.lookup y.1=some .local ∨ (scope.names.lookup y.1=some .cell/\((cellsFrom (s.heap.objs.size+1) scope.names []).lookup y.1).isSome=true):=λ⟨n,v⟩ hy=>by
  rcases S.par n (List.of_mem_zip hy).1 with q |q
  ·exact .inl q
  ·exact .inr ⟨q,PySem.W.cellsFrom_some _ _ _ (.inl q)⟩
 refine codeAny_call_function hr.depth (KX _ _ lk) rfl S.co S.gen rfl (PySem.W.codeRec_of KX hcd) (hb _ _ _ _ ?_)
 refine wpAny_with_toks (n:=1) e0.tk (wpAny_newFunctionEnv_cells S.kind hkind λenv he s1 x htk=>?_)
 subst he
 refine⟨lim.keeps x.toInCall.keep,codeAny_func ?_⟩
 obtain⟨t,ht,hq⟩:=hbody A outer s H vs Q E (hr.deeper _) hsp
 have I:Inv (cxOf CX P w K mg base N qual scope f cdv A outer s H E) [] (aS N vs) H s1:=oP S hr.hd e0 hl r htk x
 refine wpAny_mono (ht [] s1 (aS N vs) H _ I hq) (λfl s' hs=>?_) λe s' hs=>hs
 have fin:∀{σ':St} {H':Hp} {v:V} {u:Value},Inv (cxOf CX P w K mg base N qual scope f cdv A outer s H E) [] σ' H' s'->RelV v u->Q v H'->CE outer P w H s Q u s':=
  λ{σ' H' v u} J rv q=>⟨v,H',J.os,J.bare,J.base,J.hok,J.tk,rv,q⟩
 cases fl with
 |ret u=>
  obtain⟨v,σ',H',J,rv,q⟩:=hs
  exact fin J rv q
 |next=>
  obtain⟨σ',H',J,q⟩:=hs
  exact fin (v:=V.non) (u:=Value.none) J rfl q
 |brk=>
  obtain⟨_,_,_,q⟩:=hs
  exact False.elim q
 |cont=>
  obtain⟨_,_,_,q⟩:=hs
  exact False.elim q
section
variable {X:Cx}{x:Str}{p pos:Pos}{e:Expr}{es:List Expr}{t:TA}{id T:String}{r:List V->Hp->VK->Prop}
def tCB (r:List V->Hp->VK->Prop)(t:TA):TE:=λσ H Q=>t σ H λvs H1=>r vs H1 Q
theorem pe_callB (hc:dW X (.builtin id) r)(hg:Gl X x)(hm:X.mg x=none)(hv:bootBuiltins x=some (.builtin id))(ha:PA X (e::es) t)(hn:x≠"__name__":=by decide) (hdb:(x==("__debug__":Str))=false:=by decide)
  (he:starEach (e::es) X.env=(false,eval e X.env)::starEach es X.env:=by rfl) (hpl:(backTo pos (starEach es X.env)).any (·.1)=false:=by rfl):PE X (.Call (.Name x p) (e::es) [] pos) (tCB r t):=by
 intro pins s σ H Q I h
 refine wpAny_Call_Name_kw (f6 I hg hm hv ?_ hn hdb)
 exact PyProof.Rows.callWith_builtin1 (thn (ha pos pins s σ H _ I h) λus s1 ⟨vs,H1,I1,r1,q1⟩=>hc pins s1 σ H1 vs us Q I1 r1 q1) he hpl
theorem oQ (hc:dW X (.type T) r)(hg:Gl X x)(hm:X.mg x=none)(hv:bootBuiltins x=some (.type T))(ha:PA X (e::es) t)(hn:x≠"__name__":=by decide) (hdb:(x==("__debug__":Str))=false:=by decide)
  (he:starEach (e::es) X.env=(false,eval e X.env)::starEach es X.env:=by rfl) (hpl:(backTo pos (starEach es X.env)).any (·.1)=false:=by rfl):PE X (.Call (.Name x p) (e::es) [] pos) (tCB r t):=by
 intro pins s σ H Q I h
 refine wpAny_Call_Name_kw (f6 I hg hm hv ?_ hn hdb)
 exact PyProof.Rows.callWith_type1 (thn (ha pos pins s σ H _ I h) λus s1 ⟨vs,H1,I1,r1,q1⟩=>hc pins s1 σ H1 vs us Q I1 r1 q1) he hpl
end
end L2
namespace HT
open PySem PyProof.Rows
section
open PySem.SeqAt
open PySem.AutoSeq1 (wpAny_loadPart')
open PySem.MeetsSeq PySem.MeetsSeq2 PySem.MeetsSeq3
end
section
variable {prog:Program}{w:World}{A:Around}{E:Value->Shared->Prop}{s:Shared}
def sIx (n d:Nat):Option Int->Nat
 |none=>d
 |some v=>if v < 0 then (v+(n:Int)).toNat else min v.toNat n
theorem sIx_nat (n d k:Nat):sIx n d (some (k:Int))=min k n:=by
 show (if (k:Int) < 0 then ((k:Int)+(n:Int)).toNat else min (k:Int).toNat n)=min k n
 rw[if_neg (by omega),l34]
end
end HT
namespace L2
open PySem PySem.Spec PyProof.Rows
abbrev TO:=St->Hp->(Option Int->Hp->Prop)->Prop
def PO (X:Cx)(e:Option Expr)(t:TO):Prop:=
 ∀(pins:List (Addr×Obj)) (s:Shared) (σ:St) (H:Hp) (Q:Option Int->Hp->Prop),Inv X pins σ H s->t σ H Q →
  wpAny (model X.prog X.w) X.A (evalPart e X.env) (λu s'=>∃o H',Inv X pins σ H' s'/\IsPart u o/\Q o H') X.xe s
def gg:TO:=λ_ H Q=>Q none H
def oR (t:TE):TO:=λσ H Q=>t σ H λx H1=>∃i,x = .int i/\Q (some i) H1
section
variable {X:Cx}{e:Expr}{te:TE}{lo hi:Option Expr}{tl th:TO}{pos p2:Pos}
theorem po_none:PO X none gg:=by
 intro pins s σ H Q I h
 rw[evalPart_none]
 exact wpAny_pure ⟨none,H,I, .none,h⟩
theorem po_some (h:PE X e te):PO X (some e) (oR te):=by
 intro pins s σ H Q I hw
 rw[evalPart_some]
 refine thn (h pins s σ H _ I hw) λu s1 ⟨x,H1,I1,r1,q1⟩=>?_
 obtain⟨i,rfl,q⟩:=q1
 obtain⟨t,rfl⟩:=r1
 exact⟨some i,H1,I1, .int i t,q⟩
def SlR (X:Cx)(r:V->Option Int->Option Int->Hp->VK->Prop):Prop:=
 ∀(pins:List (Addr×Obj)) (s:Shared) (σ:St) (H:Hp) (x:V) (v vl vu:Value) (lo hi:Option Int) (sl:Addr) (Q:VK),Inv X pins σ H s->RelV x v->s.heap.IsSliceOf sl vl vu .none->IsPart vl lo->IsPart vu hi->r x lo hi H Q →
  ∃T id,typeLookup (.type T) "__getitem__"=pure (some (.builtin id))/\s.TypeIs v T/\wpAny (model X.prog X.w) X.A (getItem v (.ref sl)) (EP X pins σ Q) X.xe s
def tSl (r:V->Option Int->Option Int->Hp->VK->Prop)(te:TE)(tl th:TO):TE:=λσ H Q=>te σ H λx H1=>tl σ H1 λl H2=>th σ H2 λu H3=>r x l u H3 Q
theorem pe_slice {r:V->Option Int->Option Int->Hp->VK->Prop}(hr:SlR X r)(he:PE X e te)(hl:PO X lo tl)(hu:PO X hi th):PE X (.Subscript e (.Slice lo hi none p2) pos) (tSl r te tl th):=by
 intro pins s σ H Q I h
 refine Subscript_ (thn (he pins s σ H _ I h) λv s1 ⟨x,H1,I1,r1,q1⟩=>?_)
 refine wpAny_Slice (thn (hl pins s1 σ H1 _ I1 q1) λvl s2 ⟨l,H2,I2,pl,q2⟩=>thn (hu pins s2 σ H2 _ I2 q2) λvu s3 ⟨u,H3,I3,pu,q3⟩=>?_)
 rw[evalPart_none]
 refine wpAny_pure ?_
 have I4:Inv X pins σ H3 { s3 with heap:=s3.heap.push { cls := .type "slice",data := .fields #[vl,vu, .none] } }:=I3.kept (t':=s3.toks) λb ob q=>Heap.get?_push_of_some _ q
 obtain⟨T,id,hT,ht,hg⟩:=hr pins { s3 with heap:=s3.heap.push { cls := .type "slice",data := .fields #[vl,vu, .none] } } σ H3 x v vl vu l u s3.heap.objs.size Q I4 r1 (Heap.IsSliceOf.new ..) pl pu q3
 show wpAny (model X.prog X.w) X.A (subscriptTail e (.Slice lo hi none p2) v (.ref s3.heap.objs.size)) (EP X pins σ Q) X.xe { s3 with heap:=s3.heap.push { cls := .type "slice",data := .fields #[vl,vu, .none] } }
 exact tail_any (ops:=[.ref s3.heap.objs.size,v]) ht hT hg (by with_unfolding_all rfl)
def cutV (xs:List V)(lo hi:Option Int):List V:=(xs.drop (HT.sIx xs.length 0 lo)).take (HT.sIx xs.length xs.length hi - HT.sIx xs.length 0 lo)
theorem kR (xs:List V)(lo hi:Option Int):(cutV xs lo hi).length<=xs.length:=by
 unfold cutV
 rw[l33,l25]
 omega
end
def ixN (n:Nat)(i:Int):Option Nat:=if 0<=i then (if i < n then some i.toNat else none) else if -(n:Int)<=i then some (i+n).toNat else none
def atI {α:Type}(xs:List α)(i:Int):Option α:=(ixN xs.length i).bind λj=>xs[j]?
theorem oS {n:Nat}{i:Int}{j:Nat}(h:ixN n i=some j):seqIndex? i n=some j/\j < n /\ -(n:Int)<=i/\i < n:=by
 unfold ixN at h
 by_cases h0:0<=i
 ·rw[if_pos h0] at h
  by_cases h1:i < n
  ·rw[if_pos h1] at h
   have e:i.toNat=j:=Option.some.inj h
   exact⟨by rw[seqIndex_of h0 h1,e],by omega,by omega,h1⟩
  ·rw[if_neg h1] at h;cases h
 ·rw[if_neg h0] at h
  by_cases h1 : -(n:Int)<=i
  ·rw[if_pos h1] at h
   have e:(i+n).toNat=j:=Option.some.inj h
   exact⟨by rw[seqIndex_neg (by omega) h1,e],by omega,h1,by omega⟩
  ·rw[if_neg h1] at h;cases h
theorem kS {α:Type}{xs:List α}{i:Int}{v:α}(h:atI xs i=some v):∃j,seqIndex? i xs.length=some j/\xs[j]? = some v/\j < xs.length /\ -(xs.length:Int)<=i/\i < xs.length:=by
 unfold atI at h
 cases e:ixN xs.length i with
 |none=>rw[e] at h;cases h
 |some j=>
  rw[e] at h
  obtain⟨h1,h2,h3,h4⟩:=oS e
  exact⟨j,h1,h,h2,h3,h4⟩
theorem aC {α:Type}{xs:List α}{j:Nat}{v:α}(h:xs[j]? = some v):atI xs (j:Int)=some v:=by
 have hj:j < xs.length:=(List.getElem?_eq_some_iff.mp h).1
 have e:ixN xs.length (j:Int)=some j:=by
  unfold ixN
  rw[if_pos (by omega),if_pos (by omega)];simp
 unfold atI;rw[e];exact h
theorem atI_last {α:Type}(xs:List α)(v:α):atI (xs++[v]) (-1)=some v:=by
 have hl:(xs++[v]).length=xs.length+1:=by simp
 have e:ixN (xs++[v]).length (-1)=some xs.length:=by
  unfold ixN
  rw[hl,if_neg (by decide),if_pos (by omega)]
  congr 1
  omega
 unfold atI
 rw[e]
 show (xs++[v])[xs.length]? = some v
 simp
def oT (b:Expr):Prop:=∀o i,subscripted b false o i=operate [o,i] (getItem o i)
def IxR (X:Cx)(r:R2):Prop:=
 ∀(value slice:Expr) (pins:List (Addr×Obj)) (s:Shared) (σ:St) (H:Hp) (x y:V) (v u:Value) (Q:VK),Inv X pins σ H s->RelV x v->RelV y u->r x y H Q →
  subscripted slice false v u=operate [v,u] (getItem v u)->wpAny (model X.prog X.w) X.A (subscriptTail value slice v u) (EP X pins σ Q) X.xe s
def MtR (X:Cx)(id:String)(r:V->List V->Hp->VK->Prop):Prop:=
 ∀(pins:List (Addr×Obj)) (s:Shared) (σ:St) (H:Hp) (x:V) (xs:List V) (v:Value) (us:List Value) (Q:VK),Inv X pins σ H s->RelV x v->Vals xs us->r x xs H Q →
  wpAny (model X.prog X.w) X.A (call (.builtin id) (v::us)) (EP X pins σ Q) X.xe s
section
variable {X:Cx}{a b:Expr}{ta tb:TE}{pos:Pos}
theorem pe_ix {r:R2}(hr:IxR X r)(ha:PE X a ta)(hb:PE X b tb)(hs:oT b):PE X (.Subscript a b pos) (tOp r ta tb):=by
 intro pins s σ H Q I h
 exact Subscript_ (binT ha hb I h λv u s2 x y H2 I2 rx ry q=>hr a b pins s2 σ H2 x y v u Q I2 rx ry q (hs _ _))
def rIxL (K:PySem.W.Frag):R2:=λx y H Q=>∃p xs i v,x = .ref p/\y = .int i/\SqL K H p xs/\atI xs i=some v/\Q v H
def rIxT (K:PySem.W.Frag):R2:=λx y H Q=>∃p xs i v,x = .ref p/\y = .int i/\SqT K H p xs/\atI xs i=some v/\Q v H
def rIxS:R2:=λx y H Q=>∃z i c,x = .str z/\y = .int i/\z.length<=sizeLine/\atI z.cps.toList i=some c/\Q (.str ⟨#[c]⟩) H
theorem aU:IxR X (rIxL X.K):=by
 intro value slice pins s σ H x y v u Q I rx ry h hs
 obtain⟨p,xs,i,z,rfl,rfl,hq,he,q⟩:=h
 cases rx
 obtain⟨t,rfl⟩:=ry
 obtain⟨its,r,pl,hz⟩:=I.list hq
 obtain⟨j,h1,h2,h3,h4,h5⟩:=kS he
 obtain⟨w,ew,rw'⟩:=r.get h2
 have hl:=r.length
 have hn:=f9
 have fin:EP X pins σ Q w s:=⟨z,H,I,rw',q⟩
 by_cases h0:0<=i
 ·have hj:i.toNat=j:=by
   rw[seqIndex_of h0 h5] at h1
   exact Option.some.inj h1
  exact item_listR pl.isList h0 (by omega) (by rw[hj];simpa using ew) fin hs
 ·have hj:(i+(its.toArray.size:Int)).toNat=j:=by
   rw[seqIndex_neg (by omega) h4] at h1
   rw[l27,<- hl]
   exact Option.some.inj h1
  exact subscriptTail_builtinR (x:=w) pl.isList.typeIs slot_list_getitem.lookup
   (wpAny_getItem_list_neg (Q:=λr s'=>r=w/\EP X pins σ Q r s') pl.isList (by omega) (by rw[l27] <;> omega) (by omega) (by rw[hj];simpa using ew) ⟨rfl,fin⟩) hs
theorem al:IxR X (rIxT X.K):=by
 intro value slice pins s σ H x y v u Q I rx ry h hs
 obtain⟨p,xs,i,z,rfl,rfl,hq,he,q⟩:=h
 cases rx
 obtain⟨t,rfl⟩:=ry
 obtain⟨its,r,pl,hz⟩:=I.tuple hq
 obtain⟨j,h1,h2,h3,h4,h5⟩:=kS he
 obtain⟨w,ew,rw'⟩:=r.get h2
 have hl:=r.length
 have hn:=f9
 have fin:EP X pins σ Q w s:=⟨z,H,I,rw',q⟩
 exact subscriptTail_builtinR (x:=w) pl.typeIs slot_tuple_getitem.lookup
  (getItem_tuple (j:=j) (Q:=λr s'=>r=w/\EP X pins σ Q r s') pl (by omega) (by omega) (by rw[l27,<- hl];exact h1) (by simpa using ew) ⟨rfl,fin⟩) hs
theorem gh:IxR X rIxS:=by
 intro value slice pins s σ H x y v u Q I rx ry h hs
 obtain⟨z,i,c,rfl,rfl,hz,he,q⟩:=h
 obtain⟨t,rfl⟩:=rx
 obtain⟨t',rfl⟩:=ry
 obtain⟨j,h1,h2,h3,h4,h5⟩:=kS he
 have hl:z.cps.toList.length=z.length:=by simp[Str.length]
 rw[hl] at h1 h4 h5
 have hn:=f9
 exact tail_any (typeIs_str s z t) slot_str_getitem.lookup (getItem_str (c := c) (by
  have e1:decide (i < -(2 ^ 63:Int))=false:=decide_eq_false (by omega)
  have e2:decide (i ≥ 2 ^ 63)=false:=decide_eq_false (by omega)
  rw[e1,e2,Bool.or_false]) (by rw[h1];simpa using h2) ⟨.str ⟨#[c]⟩,H,I.tok _,⟨_,rfl⟩,q⟩) hs
theorem nK (its:List Value)(n j:Nat)(u:Value):Obj.mapSeq (·.setIfInBounds j u) { cls := .type "list",data := .seq its.toArray n }={ cls := .type "list",data := .seq (its.set j u).toArray n }:=by
 simp[Obj.mapSeq]
theorem Inv.lst {pins:List (Addr×Obj)}{σ:St}{H:Hp}{s:Shared}{p:Addr}{xs:List V}(I:Inv X pins σ H s)(h:H p=some (.lst xs)):
  ∃(its:List Value) (n:Nat),Vals xs its/\s.heap.get? p=some { cls := .type "list",data := .seq its.toArray n }/\xs.length<=sizeLine:=by
 obtain⟨z,its,n,r,e⟩:=I.hok p _ h
 exact⟨its,n,r,e,z⟩
theorem Inv.lstUpd {pins:List (Addr×Obj)}{σ:St}{H:Hp}{s:Shared}{p:Addr}{xs ys:List V}{its its':List Value}{n n':Nat}{f:Obj->Obj}(I:Inv X pins σ H s)(h:H p=some (.lst xs))
  (ho:s.heap.get? p=some { cls := .type "list",data := .seq its.toArray n }) (hf:f { cls := .type "list",data := .seq its.toArray n }={ cls := .type "list",data := .seq its'.toArray n' }) (r:Vals ys its') (hz:ys.length<=sizeLine) (t:Nat) (ht:0 < t:=by first |assumption |exact l36 _ |(apply Inv.tk;assumption)):
  Inv X pins σ (upd H p (.lst ys)) { s with heap:=s.heap.update p f,toks:=t }:=by
 have e:(s.heap.update p f).get? p=some { cls := .type "list",data := .seq its'.toArray n' }:=by
  rw[Heap.get?_update_self f ho (by rw[hf] <;> rfl),hf]
 refine I.write (x:=p) (e:=p) (by rw[h];trivial) (.inl rfl) (λb u hb q=>(Heap.get?_update_other _ _ (Ne.symm hb)).trans q) ⟨_,e⟩ ?_
 exact⟨hz,its',n',r,e⟩
def rSetL:V->V->V->Hp->(Hp->Prop)->Prop:=λo i v H Q=>∃p xs k j,o = .ref p/\i = .int k/\H p=some (.lst xs)/\ixN xs.length k=some j/\Q (upd H p (.lst (xs.set j v)))
theorem iL:PSet X rSetL:=by
 intro pins s σ H o i v ov iv u Q I ro ri rv h
 obtain⟨p,xs,k,j,rfl,rfl,hp,hj,q⟩:=h
 cases ro
 obtain⟨t,rfl⟩:=ri
 obtain⟨its,n,r,ho,hz⟩:=I.lst hp
 obtain⟨h1,h2,h3,h4⟩:=oS hj
 have hl:=r.length
 have hn:=f9
 have I':Inv X pins σ (upd H p (.lst (xs.set j v))) { s with heap:=s.heap.update p (Obj.mapSeq (·.setIfInBounds j u)) }:=
  I.lstUpd hp ho (nK its n j u) (r.set rv j) (by rw[l78];exact hz) s.toks
 by_cases h0:0<=k
 ·have hk:k.toNat=j:=by
   rw[seqIndex_of h0 h4] at h1
   exact Option.some.inj h1
  exact PySem.W.ki_setAt ho h0 (by omega) (by rw[l27,<- hl];exact h4) (by rw[hk];exact⟨_,I',q⟩)
 ·have hk:(k+(its.toArray.size:Int)).toNat=j:=by
   rw[seqIndex_neg (by omega) h3] at h1
   rw[l27,<- hl]
   exact Option.some.inj h1
  exact PySem.W.ki_setBack ho (by omega) (by rw[l27,<- hl];exact h3) (by omega) (by rw[hk];exact⟨_,I',q⟩)
theorem jG (lo hi:Option Int)(n:Nat):(sliceBounds lo hi none n).1=((HT.sIx n 0 lo:Nat):Int)/\(sliceBounds lo hi none n).2.1=((HT.sIx n n hi:Nat):Int)/\(sliceBounds lo hi none n).2.2=1:=by
 refine⟨?_,?_,rfl⟩
 ·cases lo with
  |none=>simp[sliceBounds,HT.sIx]
  |some i=>
   simp only[sliceBounds,HT.sIx,Option.getD_none,show (1:Int) > 0 by decide,if_true]
   by_cases h:i < 0
   ·simp only[h,if_true] <;> omega
   ·simp only[h,if_false] <;> omega
 ·cases hi with
  |none=>simp[sliceBounds,HT.sIx]
  |some i=>
   simp only[sliceBounds,HT.sIx,Option.getD_none,show (1:Int) > 0 by decide,if_true]
   by_cases h:i < 0
   ·simp only[h,if_true] <;> omega
   ·simp only[h,if_false] <;> omega
theorem iM (its:List Value)(lo hi:Option Int):slicePick its.toArray lo hi none=((its.drop (HT.sIx its.length 0 lo)).take (HT.sIx its.length its.length hi - HT.sIx its.length 0 lo)).toArray:=by
 obtain⟨h1,h2,h3⟩:=jG lo hi its.toArray.size
 unfold slicePick
 rw[h1,h2,h3]
 simp only[sliceRange_one,pick_run,l27] <;> rfl
def rSlL (K:PySem.W.Frag):V->Option Int->Option Int->Hp->VK->Prop:=λx lo hi H Q=>∃a xs,x = .ref a/\SqL K H a xs/\∀p,H p=none->Q (.ref p) (upd H p (.lst (cutV xs lo hi)))
theorem sl_list:SlR X (rSlL X.K):=by
 intro pins s σ H x v vl vu lo hi sl Q I rx hs pl pu h
 obtain⟨a,xs,rfl,hx,q⟩:=h
 cases rx
 obtain⟨its,r,ht,hz⟩:=I.list hx
 have hlen:=r.length
 refine⟨"list",_,slot_list_getitem.lookup,ht.isList.typeIs,?_⟩
 refine wpAny_getItem_list_slice ht.isList hs pl pu .none (by simp) ?_ (by rw[l27] <;> omega)
 rw[iM,<- hlen]
 refine⟨.ref s.heap.objs.size,_,I.laid (t':=s.toks) (o := .lst (cutV xs lo hi)) (λb ob q=>Heap.get?_push_of_some _ q) (l7 _) ?_,rfl,q _ (I.hok.fresh (l7 _))⟩
 exact⟨l10 (kR xs lo hi) hz,_,0,(r.drop (HT.sIx xs.length 0 lo)).take (HT.sIx xs.length xs.length hi - HT.sIx xs.length 0 lo),Heap.get?_push_size _ rfl⟩
theorem bQ:dW X (.builtin "len") (λxs H Q=>∃p ys,xs=[.ref p]/\(SqL X.K H p ys ∨ SqT X.K H p ys)/\Q (.int ys.length) H):=by
 intro pins s σ H xs us Q I r h
 obtain⟨p,ys,rfl,hq,q⟩:=h
 obtain⟨u,rfl,rx⟩:=ny r
 cases rx
 have hn:=f9
 rcases hq with hq |hq
 ·obtain⟨its,r',pl,hz⟩:=I.list hq
  have hlen:=r'.length
  exact Calls.call_len_list pl.isList (by simp only[l27] <;> omega) ⟨.int ys.length,H,I.tok _,⟨s.toks+1,by rw[l27,hlen]⟩,q⟩
 ·obtain⟨its,r',pl,hz⟩:=I.tuple hq
  have hlen:=r'.length
  exact len_tuple pl (by simp only[l27] <;> omega) ⟨.int ys.length,H,I.tok _,⟨s.toks+1,by rw[l27,hlen]⟩,q⟩
theorem aJ:dW X (.builtin "len") (λxs H Q=>∃z,xs=[.str z]/\z.length<=sizeLine/\Q (.int z.length) H):=by
 intro pins s σ H xs us Q I r h
 obtain⟨z,rfl,hz,q⟩:=h
 obtain⟨u,rfl,t,rfl⟩:=ny r
 have hn:=f9
 exact len_str (by omega) ⟨.int z.length,H,I.tok _,⟨_,rfl⟩,q⟩
theorem aA:dW X (.type "list") (λxs H Q=>∃p ys,xs=[.ref p]/\(SqL X.K H p ys ∨ SqT X.K H p ys)/\∀l,H l=none->Q (.ref l) (upd H l (.lst ys))):=by
 intro pins s σ H xs us Q I r h
 obtain⟨p,ys,rfl,hq,q⟩:=h
 obtain⟨u,rfl,rx⟩:=ny r
 cases rx
 have fin:∀(its:List Value),Vals ys its->ys.length<=sizeLine->∀(h':Heap) (c':Nat),(∀b o',s.heap.get? b=some o'->h'.get? b=some o') →
   h'.get? s.heap.objs.size=some { cls := .type "list",dict:=none,data := .seq its.toArray c',slots := #[] }->EP X pins σ Q (.ref s.heap.objs.size) { s with heap:=h' }:=λits r' hz h' c' kp e=>
  ⟨.ref s.heap.objs.size,_,I.laid (t':=s.toks) kp (l7 _) (show ObjOk X.prog X.w _ h' _ (.lst ys) from ⟨hz,its,c',r',e⟩),rfl,q _ (I.hok.fresh (l7 _))⟩
 rcases hq with hq |hq
 ·obtain⟨its,r',pl,hz⟩:=I.list hq
  have hlen:=r'.length
  obtain⟨o,ho,hc,n,hd⟩:=pl.isList
  exact call_list_seq p (.inl rfl) ho hc hd (λh' c' kp e=>fin its r' hz h' c' kp e) (by simp only[l27] <;> omega)
 ·obtain⟨its,r',pl,hz⟩:=I.tuple hq
  have hlen:=r'.length
  obtain⟨o,ho,hc,n,hd⟩:=pl
  exact call_list_seq p (.inr rfl) ho hc hd (λh' c' kp e=>fin its r' hz h' c' kp e) (by simp only[l27] <;> omega)
def tyV (K:PySem.W.Frag)(T:String)(x:V)(H:Hp):Prop:=match x with
 | .str _=>T="str"
 | .int _=>T="int"
 | .ref p=>(T="list"/\∃xs,SqL K H p xs) ∨ (T="tuple"/\∃o,K.lookup p=some o/\o.cls = .type "tuple"/\o.dict=none) ∨
   (T="dict"/\((∃kvs,H p=some (.dK kvs)) ∨ ∃kvs,H p=some (.dT kvs))) ∨ (T="set"/\∃S n,H p=some (.set S n))
 |_=>False
theorem tyV_is {pins:List (Addr×Obj)}{σ:St}{H:Hp}{s:Shared}{T:String}{x:V}{v:Value}(I:Inv X pins σ H s)(r:RelV x v)(ty:tyV X.K T x H):
  s.TypeIs v T/\∀a,v = .ref a->∃ob,s.heap.get? a=some ob/\ob.dict=none:=by
 cases x with
 |str z=>
  obtain⟨t,rfl⟩:=r
  cases (show T="str" from ty)
  exact⟨typeIs_str s z t,λ_ e=>nomatch e⟩
 |int i=>
  obtain⟨t,rfl⟩:=r
  cases (show T="int" from ty)
  exact⟨typeIs_int s i t,λ_ e=>nomatch e⟩
 |ref p=>
  cases r
  rcases ty with ⟨rfl,xs,hq⟩ |⟨rfl,o,hk,hc,hd⟩ |⟨rfl,hk⟩ |⟨rfl,S,n,hk⟩
  ·obtain⟨its,_,pl,_⟩:=I.list hq
   refine⟨pl.isList.typeIs,λa e=>?_⟩
   cases e
   obtain⟨o,n,e,c,hd,_⟩:=pl
   exact⟨o,e,hd⟩
  ·refine⟨⟨o,I.kIn p o hk,hc⟩,λa e=>?_⟩
   cases e
   exact⟨o,I.kIn _ o hk,hd⟩
  ·have z:∃o,s.heap.get? p=some o/\o.ExactDict:=by
    rcases hk with ⟨kvs,hk⟩ |⟨kvs,hk⟩
    ·obtain⟨_,_,_,_,o,_,_,e,ex,_⟩:=I.hok p _ hk
     exact⟨o,e,ex⟩
    ·obtain⟨_,_,_,_,o,_,_,e,ex,_⟩:=I.hok p _ hk
     exact⟨o,e,ex⟩
   obtain⟨o,e,ex⟩:=z
   refine⟨⟨o,e,ex.1⟩,λa e2=>?_⟩
   cases e2
   exact⟨o,e,ex.2.1⟩
  ·obtain⟨o,_,_,_,e,ex,_⟩:=I.hok p _ hk
   refine⟨⟨o,e,ex.1⟩,λa e2=>?_⟩
   cases e2
   exact⟨o,e,ex.2.1⟩
 |_=>exact False.elim ty
def tBM0 (K:PySem.W.Frag)(T:String)(r:V->List V->Hp->VK->Prop)(to:TE):TE:=λσ H Q=>to σ H λx H1=>tyV K T x H1/\r x [] H1 Q
def tBM (K:PySem.W.Frag)(T:String)(r:V->List V->Hp->VK->Prop)(to:TE)(t:TA):TE:=λσ H Q=>to σ H λx H1=>tyV K T x H1/\t σ H1 λxs H2=>r x xs H2 Q
variable {o e:Expr}{es:List Expr}{to:TE}{t:TA}{name:Str}{apos cpos:Pos}{T id:String}{r:V->List V->Hp->VK->Prop}
theorem pe_bm0 (pa:PlainAttrs T)(slot:Slot T name id)(hty:typeOf (.builtin id)=pure (.type "method_descriptor"))(hm:MtR X id r)(ho:PE X o to)
  (hbase:attributeBase o name X.env (eval o X.env)=eval o X.env:=by rfl) (hline:(apos.endLine==cpos.line)=true:=by rfl):PE X (.Call (.Attribute o name apos) [] [] cpos) (tBM0 X.K T r to):=by
 intro pins s σ H Q I h
 refine wpAny_Call_method0_late hbase hline (thn (ho pins s σ H _ I h) λv s1 ⟨x,H1,I1,r1,ty,q1⟩=>?_)
 obtain⟨h1,h2⟩:=tyV_is I1 r1 ty
 exact⟨T,id,pa,slot,hty,h1,h2,Calls.callWith_builtin rfl (PySem.evalArgs_none (hm pins s1 σ H1 x [] v [] Q I1 r1 .nil q1))⟩
theorem pe_bm (pa:PlainAttrs T)(slot:Slot T name id)(hty:typeOf (.builtin id)=pure (.type "method_descriptor"))(hm:MtR X id r)(ho:PE X o to)(ha:PA X (e::es) t)
  (hbase:attributeBase o name X.env (eval o X.env)=eval o X.env:=by rfl)
  (hfew : ((backTo cpos (starEach (e::es) X.env)).all (λx => !x.1)&&(backToKw cpos (keywordEach [] X.env)).all (λx=>x.1.isSome)
   && decide ((e::es).length+([]:List Keyword).length+(if ([]:List Keyword).isEmpty then 0 else 1) < 30))=true:=by rfl)
  (hline:(apos.endLine==cpos.line)=true:=by rfl) (hs:starEach (e::es) X.env=(false,eval e X.env)::starEach es X.env:=by rfl) (hplain:(backTo cpos (starEach es X.env)).any (·.1)=false:=by rfl):
  PE X (.Call (.Attribute o name apos) (e::es) [] cpos) (tBM X.K T r to t):=by
 intro pins s σ H Q I h
 refine wpAny_Call_method_late hbase hfew hline rfl (thn (ho pins s σ H _ I h) λv s1 ⟨x,H1,I1,r1,ty,q1⟩=>?_)
 obtain⟨h1,h2⟩:=tyV_is I1 r1 ty
 refine⟨T,id,pa,slot,hty,h1,h2,?_⟩
 have hA:=ha cpos pins s1 σ H1 _ I1 q1
 rw[hs] at hA ⊢
 refine Calls.callWith_builtin (by show (false||(backTo cpos (starEach es X.env)).any (·.1))=false;rw[hplain] <;> rfl) (Calls.evalArgs_plain ?_)
 exact thn hA λus s2 ⟨vs,H2,I2,r2,q2⟩=>hm pins s2 σ H2 x vs v us Q I2 r1 r2 q2
end
def MtM (X:Cx)(id:String)(r:V->List V->Hp->VK->Prop):Prop:=
 ∀(pins:List (Addr×Obj)) (s:Shared) (σ:St) (H:Hp) (x:V) (xs:List V) (v:Value) (us:List Value) (Q:VK),Inv X pins σ H s->RelV x v->Vals xs us->r x xs H Q →
  wpAny (model X.prog X.w) X.A (call (.builtin id) (v::us)) (EP X pins σ Q) X.xe s
theorem Vals.one:∀{x:V} {us:List Value},Vals [x] us->∃u,us=[u]/\RelV x u
 |_,_, .cons r .nil=>⟨_,rfl,r⟩
theorem Vals.two:∀{x y:V} {us:List Value},Vals [x,y] us->∃u v,us=[u,v]/\RelV x u/\RelV y v
 |_,_,_, .cons r (.cons q .nil)=>⟨_,_,rfl,r,q⟩
theorem Vals.zero:∀{us:List Value},Vals [] us->us=[]
 |_, .nil=>rfl
theorem Vals.rep {xs:List V}{us:List Value}(h:Vals xs us):∀k:Nat,Vals (List.replicate k xs).flatten (List.replicate k us).flatten
 |0 => .nil
 |k+1=>by
  rw[l49,l49,l50,l50]
  exact Vals.append h (Vals.rep h k)
theorem jH (its:List Value):∀(k:Nat) (acc:List Value),
  List.foldl (λx1 x2=>x1++x2) acc.toArray (List.replicate k its.toArray)=(acc++(List.replicate k its).flatten).toArray
 |0,acc=>by simp
 |k+1,acc=>by
  have e:acc.toArray++its.toArray=(acc++its).toArray:=by simp
  have e2:(acc++its)++(List.replicate k its).flatten=acc++(List.replicate (k+1) its).flatten:=by
   rw[l49,l50,l24]
  rw[<- e2,<- jH its k (acc++its),<- e,l49,l79]
section
variable {X:Cx}{pins:List (Addr×Obj)}{σ:St}{H:Hp}{s:Shared}{l b:Addr}{xs ys zs:List V}
theorem Inv.lset {its its':List Value}{n:Nat}{f:Array Value->Array Value}{t':Nat}(I:Inv X pins σ H s)(hH:H l=some (.lst xs))
  (e:s.heap.get? l=some { cls := .type "list",data := .seq its.toArray n }) (hf:f its.toArray=its'.toArray) (hv:Vals ys its') (hz:ys.length<=sizeLine) (ht:0 < t':=by first |assumption |exact l36 _ |(apply Inv.tk;assumption)):
  Inv X pins σ (upd H l (.lst ys)) { s with heap:=s.heap.update l (Obj.mapSeq f),toks:=t' }:=by
 have q:=PySem.IsL.update e f
 rw[hf] at q
 refine I.write (x:=l) (e:=l) (by rw[hH];exact trivial) (.inl rfl) (λb' u hb hu=>(Heap.get?_update_other s.heap (Obj.mapSeq f) (Ne.symm hb)).trans hu) ⟨_,q⟩ ?_
 exact⟨hz,its',_,hv,q⟩
theorem Inv.lnew {its:List Value}{t':Nat}(I:Inv X pins σ H s)(hv:Vals ys its)(hz:ys.length<=sizeLine)(ht:0 < t':=by first |assumption |exact l36 _ |(apply Inv.tk;assumption)):
  Inv X pins σ (upd H s.heap.objs.size (.lst ys)) { s with heap:=s.heap.push { cls := .type "list",data := .seq its.toArray },toks:=t' }:=
 I.laid (λ_ _ q=>Heap.get?_push_of_some _ q) (l7 _) ⟨hz,its,0,hv,Heap.get?_push_size _ rfl⟩
theorem Inv.fresh (I:Inv X pins σ H s):H s.heap.objs.size=none:=I.hok.fresh (l7 _)
theorem Inv.lstM (I:Inv X pins σ H s)(hH:H l=some (.lst xs)):xs.length<=sizeLine/\∃(its:List Value) (n:Nat),Vals xs its/\xs.length=its.length/\s.heap.get? l=some { cls := .type "list",data := .seq its.toArray n }:=by
 obtain⟨z,its,n,r,e⟩:=I.hok l _ hH
 exact⟨z,its,n,r,r.length,e⟩
theorem ms {n:Nat}(h:n<=sizeLine):Builtin.List.listTooLong n=false:=by
 unfold Builtin.List.listTooLong
 exact decide_eq_false (by omega)
end
section
variable {X:Cx}
def rAppend:V->List V->Hp->VK->Prop:=λx vs H Q=>∃l xs y,x = .ref l/\vs=[y]/\H l=some (.lst xs)/\xs.length < sizeLine/\Q .non (upd H l (.lst (xs++[y])))
theorem aP:MtM X "list.append" rAppend:=by
 intro pins s σ H x vs v us Q I rx rv h
 obtain⟨l,xs,y,rfl,rfl,hH,hz,q⟩:=h
 cases rx
 obtain⟨u,rfl,ru⟩:=rv.one
 obtain⟨z,its,n,r,hl,e⟩:=I.lstM hH
 refine call_meets F.slot_list_append ⟨_,e,rfl⟩ F.entry_list_append (F.args_list_append_2 _ _) (PySem.list_append l its.toArray n u (by rw[l27];omega)) ⟨e,?_⟩
 refine⟨.non,_,I.lset (its':=its++[u]) hH e (by simp) (r.append (.cons ru .nil)) ?_,rfl,q⟩
 rw[l5,l80]
 omega
def rExtend:V->List V->Hp->VK->Prop:=λx vs H Q=>∃l b xs zs,x = .ref l/\vs=[.ref b]/\H l=some (.lst xs)/\H b=some (.lst zs)/\xs.length+zs.length<=sizeLine/\Q .non (upd H l (.lst (xs++zs)))
theorem cZ:MtM X "list.extend" rExtend:=by
 intro pins s σ H x vs v us Q I rx rv h
 obtain⟨l,b,xs,zs,rfl,rfl,hH,hB,hz,q⟩:=h
 cases rx
 obtain⟨u,rfl,ru⟩:=rv.one
 cases ru
 obtain⟨z,its,n,r,hl,e⟩:=I.lstM hH
 obtain⟨z2,its2,n2,r2,hl2,e2⟩:=I.lstM hB
 have hsz:its.toArray.size+its2.toArray.size<=sizeLine:=by rw[l27,l27];omega
 have hlong:¬ (!its.toArray.isEmpty&&Builtin.List.listTooLong (its.toArray.size+its2.toArray.size))=true:=by
  rw[ms hsz,Bool.and_false]
  exact Bool.false_ne_true
 refine call_meets F.slot_list_extend ⟨_,e,rfl⟩ F.entry_list_extend (F.args_list_extend_2 _ _)
  (AutoSeq1.list_extend_list_list_0 l its.toArray n b its2.toArray n2 hlong (by rw[l27];omega) (by omega)) ⟨e,e2,?_⟩
 refine⟨.non,_,I.lset (its':=its++its2) hH e (by simp) (r.append r2) ?_,rfl,q⟩
 rw[l5]
 omega
def rCat:R2:=λx y H Q=>∃l b xs zs,x = .ref l/\y = .ref b/\H l=some (.lst xs)/\H b=some (.lst zs)/\xs.length+zs.length<=sizeLine/\∀p,H p=none->Q (.ref p) (upd H p (.lst (xs++zs)))
theorem fJ:OpR X (binaryOp .Add) rCat:=by
 intro pins s σ H x y v u Q I rx ry h
 obtain⟨l,b,xs,zs,rfl,rfl,hH,hB,hz,q⟩:=h
 cases rx
 cases ry
 obtain⟨z,its,n,r,hl,e⟩:=I.lstM hH
 obtain⟨z2,its2,n2,r2,hl2,e2⟩:=I.lstM hB
 refine PySem.P.add_list e e2 ?_ (by rw[l27,l27];omega)
 have ea:its.toArray++its2.toArray=(its++its2).toArray:=by simp
 rw[ea]
 exact⟨.ref _,_,I.lnew (t':=s.toks) (r.append r2) (by rw[l5];omega),rfl,q _ I.fresh⟩
def rRep:R2:=λx y H Q=>∃l k xs,x = .ref l/\y = .int k/\H l=some (.lst xs) /\ -(2 ^ 63)<=k/\k < 2 ^ 63/\xs.length * k.toNat<=sizeLine ∧
 ∀p,H p=none->Q (.ref p) (upd H p (.lst (List.replicate k.toNat xs).flatten))
theorem len_rep {α:Type}(xs:List α)(k:Nat):(List.replicate k xs).flatten.length=k * xs.length:=by
 induction k with
 |zero=>simp
 |succ k ih=>rw[l49,l50,l5,ih,l54,Nat.add_comm]
theorem op_rep:OpR X (binaryOp .Mult) rRep:=by
 intro pins s σ H x y v u Q I rx ry h
 obtain⟨l,k,xs,rfl,rfl,hH,h1,h2,hz,q⟩:=h
 cases rx
 obtain⟨t,rfl⟩:=ry
 obtain⟨z,its,n,r,hl,e⟩:=I.lstM hH
 have hlen:its.toArray.size * k.toNat<=sizeLine:=by rw[l27,<- hl];exact hz
 have hcap:¬ its.toArray.size * k.toNat > (2 ^ 63 - 1) / 8:=by
  have:(sizeLine:Nat)<=(2 ^ 63 - 1) / 8:=by decide
  omega
 have hfit:¬ (!Builtin.List.listFitsIndex k)=true:=by
  rw[fitsIndex_both h1 h2]
  exact Bool.false_ne_true
 have hlong:¬ Builtin.List.listTooLong (its.toArray.size * k.toNat)=true:=by
  rw[ms hlen]
  exact Bool.false_ne_true
 have hnew:List.foldl (λx1 x2=>x1++x2) #[] (List.replicate (if its.toArray.isEmpty=true then 0 else k.toNat) its.toArray)=(List.replicate k.toNat its).flatten.toArray:=by
  have f0:∀m:Nat,List.foldl (λx1 x2=>x1++x2) #[] (List.replicate m its.toArray)=(List.replicate m its).flatten.toArray:=λm=>by
   have:=jH its m []
   rw[l55] at this
   exact this
  rw[f0]
  cases its with
  |nil=>simp
  |cons a r'=>rw[if_neg (by simp)]
 refine wpAny_binaryOp_repeat_ref (T:="list") (U:="int") (by decide) ⟨_,e,rfl⟩ (λs'=>typeIs_int s' k t) noFill_list_mul F.fills_int_mul F.slot_int_rmul repeat_list F.slot_int_index.lookup
  (call_meets F.slot_int_rmul (typeIs_int s k t) F.entry_int_rmul (F.args_int_rmul_2 _ _) (int___rmul___int_list k t l its.toArray n)
   ⟨e,rfl,⟨_,e,rfl⟩,call_meets F.slot_list_mul ⟨_,e,rfl⟩ F.entry_list_mul (F.args_list_mul_2 _ _) (AutoListH.list___mul___list_int_3 l its.toArray n k t hfit hcap hlong) ⟨e,?_⟩⟩)
 rw[hnew]
 exact⟨.ref _,_,I.lnew (t':=s.toks) (r.rep k.toNat) (by rw[len_rep,Nat.mul_comm];exact hz),rfl,q _ I.fresh⟩
end
section
variable {prog:Program}{w:World}{A:Around}{E:Value->Shared->Prop}{s:Shared}
set_option maxRecDepth 100000 in
end
end L2
namespace Att
open PySem PySem.W PySem.Calls PyProof.Rows
end Att
namespace L2
open PySem PySem.Spec PyProof.Rows
theorem jI:∀{vs:List Value} {ns:List Int},IntsAre vs ns->Vals (ns.map V.int) vs
 |_,_, .nil => .nil
 |_,_, .cons n t h => .cons ⟨t,rfl⟩ (jI h)
def Only (H:Hp):Prop:=∀b,H b=none ∨ ∃o xs,H b=some (.frz o (.lst xs))
theorem law_call {P:Program}{w:World}{K:PySem.W.Frag}{mg mb:Str->Option Value}{CX:CXT}{k:Nat}{fa a:Addr}{fd:FuncData}{x:Str}{sp:Sp}{s₁:Shared}{vs:List Value}{ns:List Int}
  (KX:K.In s₁.heap)(hns:s₁.heap.Ns mainGlobals mg)(hb:s₁.heap.Ns builtinsNs mb)(hbb:∀x:Str,x≠"__name__"->mb x=bootBuiltins x)(hlim:s₁.heap.NoLimit)(hg:s₁.gens = #[])(htk:0 < s₁.toks)
  (ha:s₁.heap.get? a=some { cls := .type "list",data := .seq vs.toArray }) (hi:IntsAre vs ns) (hl:ns.length<=sizeLine) (hr:Room k callerA)
  (F:∀base:Heap,K.In base->base.Ns mainGlobals mg->FnOk P w K mg base CX k fa fd [x] sp) (hbind:∀(s:Shared) (u:Value),BindsTo s fd ⟨[u],[]⟩ [(x,u)])
  (hsp:∀H:Hp,Only H->SqL K H a (ns.map V.int)->sp [.ref a] H (λv _=>v = .bl true) λ_ _ _=>False)
  (hCX:∀H e s',CX [] H s₁ (λ_ _ _=>False) e s'->False):
  codeAny (model P w) callerA (.call (.ref fa) ⟨[.ref a],[]⟩) (λr s'=>r = .ok (.ret (.bool true))/\OldK s₁.heap s'.heap/\s'.os=s₁.os/\AllBare s'.gens) s₁:=by
 have rv:=jI hi
 have lenV:=hi.length
 have core:∀H:Hp,Only H->SqL K H a (ns.map V.int)->HOk P w H s₁.heap->(∀b,H b≠none->b=a)->(H a≠none->K.lookup a=none) →
   codeAny (model P w) callerA (.call (.ref fa) ⟨[.ref a],[]⟩) (λr s'=>r = .ok (.ret (.bool true))/\OldK s₁.heap s'.heap/\s'.os=s₁.os/\AllBare s'.gens) s₁:=by
  intro H hO hS hok hA hK
  have base_of:∀{b:Addr} {o:Obj},s₁.heap.get? b=some o->H b=none->(hidT s₁.heap H).get? b=some o:=λe n=>hidT_get e n
  have noA:∀{b:Addr} {o:Obj} {es:Array DictEntry} {ep:Nat},s₁.heap.get? b=some o->o.data = .dict es ep->H b=none:=λ{b o es ep} e d=>by
   cases q:H b with
   |none=>rfl
   |some u=>
    have e':b=a:=hA b (by rw[q];simp)
    subst e'
    rw[ha] at e;cases e
    have d':Data.seq vs.toArray _=Data.dict es ep:=d
    cases d'
  have nsK:∀{b:Addr} {m:Str->Option Value},s₁.heap.Ns b m->(hidT s₁.heap H).Ns b m:=λ{b m} ⟨o,es,ep,e,d,r⟩=>⟨o,es,ep,base_of e (noA e d),d,r⟩
  have hKb : K.In (hidT s₁.heap H) := fun b o e => base_of (KX b o e) (by
   cases q:H b with
   |none=>rfl
   |some u=>
    have e':b=a:=hA b (by rw[q];simp)
    subst e'
    rw[hK (by rw[q];simp)] at e;cases e)
  have hM:Mod K mg (hidT s₁.heap H):=⟨hKb,nsK hns,⟨mb,nsK hb,hbb⟩,let ⟨mc,h1,h2⟩:=hlim;⟨mc,nsK h1,h2⟩⟩
  have e0:Env0 P w K mg (hidT s₁.heap H) callerA [] s₁ H:=⟨rfl,hM,λb o e=>of_hidT e,Nat.le_of_eq (oF _ _),trivial,λb hb=>absurd (show b∈([]:List Addr) from hb) (by simp),hok, .of_eq hg,htk⟩
  refine codeAny_mono ((F _ hKb (nsK hns)).run callerA [] s₁ H ⟨[.ref a],[]⟩ [.ref a] [.ref a] _ _ hr e0 (hbind s₁ (.ref a)) (.cons rfl .nil) (hsp H hO hS)) λr s' h=>?_
  cases r with
  |error e=>exact(hCX H e s' h).elim
  |ok fl=>
   cases fl with
   |next=>exact False.elim h
   |brk=>exact False.elim h
   |cont=>exact False.elim h
   |ret u=>
    obtain⟨v,H',os,bare,un,hok',_,r',q⟩:=h
    have q':v = .bl true:=q
    subst q'
    obtain rfl:u=Value.bool true:=r'
    refine⟨rfl,OldK.of_keep λb o e=>?_,os,bare⟩
    cases q:H b with
    |none=>exact un.keep b o e q (by intro z;exact absurd (show b∈([]:List Addr) from z) (by simp)) (by simp)
    |some u=>
     rcases hO b with z |⟨ob,xs,z⟩
     ·rw[q] at z;cases z
     ·have z2:=un.frzs b ob _ z
      obtain⟨e1,_⟩:=hok b _ z
      obtain⟨e2,_⟩:=hok' b _ z2
      rw[e] at e1;cases e1
      exact e2
 cases hk:K.lookup a with
 |some o=>
  have e:=KX a o hk
  rw[ha] at e
  cases e
  refine core (λ_=>none) (λ_ => .inl rfl) (.inr ⟨_,vs.toArray,_,hk,rfl,rfl,rfl,by rw[l27,lenV];exact hl,by simpa using rv⟩) (λb u z=>by have z':(none:Option HO)=some u:=z;cases z') (λb z=>absurd rfl z) λz=>absurd rfl z
 |none=>
  refine core (λb=>if b=a then some (.frz { cls := .type "list",data := .seq vs.toArray } (.lst (ns.map V.int))) else none) (λb=>?_) (.inl (.inr ⟨{ cls := .type "list",data := .seq vs.toArray },if_pos rfl⟩)) (λb u z=>?_) (λb z=>?_) λ_=>hk
  ·by_cases hb:b=a
   ·exact .inr ⟨_,_,if_pos hb⟩
   ·exact .inl (if_neg hb)
  ·by_cases hb:b=a
   ·have z':=(if_pos hb).symm.trans z
    cases z'
    subst hb
    exact⟨ha,by rw[l6];exact hl,vs,_,rv,ha⟩
   ·have z':=(if_neg hb).symm.trans z
    cases z'
  ·by_cases hb:b=a
   ·exact hb
   ·exact absurd (if_neg hb) z
abbrev KOf {K:PySem.W.Frag}{h:Heap}(_:K.In h):PySem.W.Frag:=K
def bT (s:Stmt):Arguments:=match s with
 | .FunctionDef _ a _ _ _ _ _ _ _ _=>a
 |_=>{ posonlyargs:=[],args:=[],vararg:=none,kwonlyargs:=[],kw_defaults:=[],kwarg:=none,defaults:=[] }
def bB (s:Stmt):List Stmt:=match s with
 | .FunctionDef _ _ b _ _ _ _ _ _ _=>b
 |_=>[]
def ad (s:Stmt):Scope:=match s with
 | .FunctionDef _ _ _ _ _ _ sc _ _ _=>sc
 |_=>{ kind := .function,names:=[],isGenerator:=false,isCoroutine:=false }
abbrev CX0:CXT:=λ_ _ _ _ _ _=>False
abbrev E0:XK:=λ_ _ _=>False
theorem pass0 {X:Cx}:jB CX0 X E0:=λ_ _ _ _ _ _ _ h=>h.elim
structure Fun (K:PySem.W.Frag)(x qual:Str)(st:Stmt)(f:Addr)(fd:FuncData):Prop where
 ex:∃(oc:Value) (od:Option Addr) (kV doc pm:Value) (an:Option Addr) (cdv ct:Value) (osl:Array (Option Value)),
  fd=PySem.W.fnOf x qual (bT st) (bB st) (ad st) .none kV doc pm an cdv ct/\K.lookup f=some ⟨oc,od, .func fd,osl⟩/\PySem.W.codeIn K cdv qual=true
 kp:PySem.W.keepIn K (.ref f)=true
section
variable {P:Program}{w:World}{K:PySem.W.Frag}{mg:Str->Option Value}{base:Heap}
theorem Fun.ok {x qual:Str}{st:Stmt}{f:Addr}{fd:FuncData}{N ps:List Str}{k:Nat}{sp:Sp}(F:Fun K x qual st f fd)(S:FnScope N ps (ad st))(len:∀vs H Q E,sp vs H Q E->vs.length=ps.length)
  (hbody:∀(cdv:Value)(A:Around)(outer:List Env)(s:Shared)(H:Hp)(vs:List V)(Q:VK)(E:XK),Room k (A.deeper (envOfC qual (ad st) s.heap.objs.size f cdv))->sp vs H Q E →
   ∃t,PSs (cxOf CX0 P w K mg base N qual (ad st) f cdv A outer s H E).nox (bB st) t/\t { nx:=λ_ H'=>Q .non H',rt:=Q } (aS N vs) H):FnOk P w K mg base CX0 (k+1) f fd ps sp:=by
 obtain⟨oc,od,kV,doc,pm,an,cdv,ct,osl,rfl,lk,hcd⟩:=F.ex
 refine fn_of lk hcd S len λA outer s H vs Q E hr hsp=>?_
 obtain⟨t,h,q⟩:=hbody cdv A outer s H vs Q E hr hsp
 exact⟨t,h.nox,q⟩
theorem Fun.oks {x qual:Str}{st:Stmt}{f:Addr}{fd:FuncData}{N ps:List Str}{k:Nat}{sp:Sp}(F:Fun K x qual st f fd)(S:FnScope N ps (ad st))
  (hbody:∀(cdv:Value)(A:Around)(outer:List Env)(s:Shared)(H:Hp)(vs:List V)(Q:VK)(E:XK),Room k (A.deeper (envOfC qual (ad st) s.heap.objs.size f cdv))->sp vs H Q E →
   ∃t,PSs (cxOf CX0 P w K mg base N qual (ad st) f cdv A outer s H E).nox (bB st) t/\t { nx:=λ_ H'=>Q .non H',rt:=Q } (aS N vs) H) (len:∀vs H Q E,sp vs H Q E->vs.length=ps.length:=by intro vs H Q E h;repeat (first |(obtain⟨rfl,_⟩:=h;rfl) |(obtain⟨_,h⟩:=h))):FnOk P w K mg base CX0 (k+1) f fd ps sp:=F.ok S len hbody
theorem Fun.binds {x qual:Str}{st:Stmt}{f:Addr}{fd:FuncData}{ps:List Str}(F:Fun K x qual st f fd)
  (h:∀(kV doc pm:Value)(an:Option Addr)(cdv ct:Value)(us:List Value),us.length=ps.length->bindArgs (PySem.W.fnOf x qual (bT st) (bB st) (ad st) .none kV doc pm an cdv ct) ⟨us,[]⟩=pure (ps.zip us)):Binds K fd ps []:=by
 obtain⟨oc,od,kV,doc,pm,an,cdv,ct,osl,rfl,lk,hcd⟩:=F.ex
 exact .all (h kV doc pm an cdv ct)
theorem mt {x qual:Str}{st:Stmt}{f:Addr}{oc:Value}{od an:Option Addr}{osl:Array (Option Value)}{kV doc pm cdv ct:Value}(l:K.lookup f=some ⟨oc,od, .func (PySem.W.fnOf x qual (bT st) (bB st) (ad st) .none kV doc pm an cdv ct),osl⟩)
  (c:PySem.W.codeIn K cdv qual=true)(k:PySem.W.keepIn K (.ref f)=true):Fun K x qual st f (PySem.W.fnOf x qual (bT st) (bB st) (ad st) .none kV doc pm an cdv ct):=⟨⟨oc,od,kV,doc,pm,an,cdv,ct,osl,rfl,l,c⟩,k⟩
end
section
variable {X:Cx}
theorem pv (i:Nat){x:Str}{pos:Pos}(hN:X.N[i]? = some x:=by rfl) (hv:Vis X.env.scope x:=by first |exact Or.inl rfl |exact Or.inr (Or.inl rfl) |exact Or.inr (Or.inr rfl)) (hd:(x==("__debug__":Str))=false:=by decide)
  (hcd:(x==("__classdict__":Str))=false:=by decide):PE X (.Name x pos) (tVar i):=pe_var hN hv hd hcd
end
theorem iteF {A B:Prop}(h:B):if false=true then A else B:=by
 rw[if_neg Bool.false_ne_true]
 exact h
theorem iteT {A B:Prop}(h:A):if true=true then A else B:=by
 rw[if_pos rfl]
 exact h
theorem ite2 {c A B:Prop} [Decidable c](h1:c->A)(h2:¬ c->B):if c then A else B:=by
 by_cases h:c
 ·rw[if_pos h]
  exact h1 h
 ·rw[if_neg h]
  exact h2 h
def Same (H H':Hp):Prop:=∀b o,H b=some o->H' b=some o
theorem Same.refl (H:Hp):Same H H:=λ_ _ h=>h
theorem Same.trans {H H1 H2:Hp}(a:Same H H1)(b:Same H1 H2):Same H H2:=λc o h=>b c o (a c o h)
theorem Same.free {H H':Hp}(e:Same H H'){l:Addr}(h:H' l=Option.none):H l=Option.none:=by
 cases q:H l with
 |none=>rfl
 |some o=>
  rw[e l o q] at h
  cases h
theorem Same.seq {K:PySem.W.Frag}{H H':Hp}{a:Addr}{xs:List V}(e:Same H H')(h:SqL K H a xs):SqL K H' a xs:=by
 rcases h with (h |⟨o,h⟩) |h
 ·exact .inl (.inl (e _ _ h))
 ·exact .inl (.inr ⟨o,e _ _ h⟩)
 ·exact .inr h
def CellsIn (env:Env):List (Str×Addr)->Prop
 | []=>True
 |p::r=>env.cells.lookup p.1=some p.2/\CellsIn env r
theorem CellsIn.look {env:Env}:∀{cl:List (Str×Addr)},CellsIn env cl->∀x c,cl.lookup x=some c->env.cells.lookup x=some c
 | [],_,x,c,e=>by simp at e
 |p::r,h,x,c,e=>by
  obtain⟨n,a⟩:=p
  rw[List.lookup_cons] at e
  cases q:x==n with
  |true=>
   rw[q] at e
   have q':x=n:=eq_of_beq q
   subst q'
   cases e
   exact h.1
  |false=>
   rw[q] at e
   exact h.2.look x c e
abbrev be (X:Cx)(scope:Scope)(cl:List (Str×Addr))(C:Addr)(N':List Str)(fp:List Addr)(s:Shared)(H:Hp):Cx:=
 { X with N:=N',s₀:=s,H₀:=H,env:=compEnvC scope cl C X.env,outer:=X.stack,ex:=fp,fn:=λ_=>false,pn:=[],xe:=λ_ _=>False }
def nfS (k:Nat)(fr:List Nat)(σ:St):St:=List.replicate k none++fr.map λj=>(σ[j]?).join
structure CompN (X:Cx)(scope:Scope)(cl:List (Str×Addr))(own:List Str)(fr:List Nat)(N':List Str):Prop where
 kind:scope.kind = .function
 cells:CellsIn X.env cl
 has:∀x,((relabel scope X.env).names.lookup x=some .cell ∨ (relabel scope X.env).names.lookup x=some .free)->∃c,cl.lookup x=some c
 nd:N'.Nodup
 len:N'.length=own.length+fr.length
 free:∀(i:Nat) (j:Nat),fr[i]? = some j->∃x,X.N[j]? = some x/\N'[own.length+i]? = some x/\(X.env.kindOf x=some .cell ∨ X.env.kindOf x=some .free) ∧
  ((relabel scope X.env).names.lookup x=some .cell ∨ (relabel scope X.env).names.lookup x=some .free)
section
variable {X:Cx}{pins:List (Addr×Obj)}{σ:St}{H:Hp}{s s4:Shared}{scope:Scope}{cl:List (Str×Addr)}{own:List Str}{fr:List Nat}{N':List Str}{fp:List Addr}{C:Addr}{H4:Hp}
theorem oU (I:Inv X pins σ H s)(Z:CompN X scope cl own fr N')(hC:s.heap.objs.size<=C)(hf:∀b∈fp,FpOk X pins H b)(ho:∀b∈fp,∃o,s.heap.get? b=some o/\∀v,o.data ≠ .cell v):(be X scope cl C N' fp s H).Ok where
 mod:=I.ok.mod
 kind:=Z.kind
 glob:=I.ok.glob
 blt:=I.ok.blt
 above:=hC
 inj:=λx y c h1 h2=>I.ok.inj x y c (Z.cells.look x c h1) (Z.cells.look y c h2)
 has:=λx h=>Z.has x h
 cab:=λx c h _=>Bool.noConfusion h
 hd:=I.ok.hd
 frames:=I.ok.frames
 stk := .inl rfl
 exf:=λb hb=>by
  obtain⟨o,e,_⟩:=ho b hb
  refine⟨l29 (l26 (Heap.lt_size e) hC),λx c h=>?_⟩
  exact(hf b hb).2.2.2.2.1 x c (Z.cells.look x c h)
 bs:=I.bs
 bsz:=l10 I.ok.bsz I.sz
 noex:=λb o e hb=>by
  rcases (hf b hb).2.2.2.1 with z |z
  ·exact I.ok.noex b o e z
  ·exact absurd (l26 (Heap.lt_size e) (l10 I.ok.bsz z)) (l43 _)
 exfs:=λb hb z=>by
  rcases l9.mp (I.stkSub b z) with e |e
  ·exact(hf b hb).2.1 e
  ·exact(hf b hb).2.2.1 e
 funs:=I.stack
 frf:=I.stkFree
theorem comp_inv (I:Inv X pins σ H s)(Z:CompN X scope cl own fr N')(hC:s.heap.objs.size<=C)(hf:∀b∈fp,FpOk X pins H b)(ho:∀b∈fp,∃o,s.heap.get? b=some o/\∀v,o.data ≠ .cell v)
  (os:s4.os=s.os)(bare:AllBare s4.gens)(un:Un (frs X.stack) fp H H4 s.heap s4.heap)(ns:∃m,s4.heap.Ns C m)(kc:∀x c v,X.env.cells.lookup x=some c->s.heap.IsCell c v->s4.heap.IsCell c v)
  (fr4:H4 C=none)(hok:HOk X.prog X.w H4 s4.heap)(tk:0 < s4.toks):Inv (be X scope cl C N' fp s H) [] (nfS own.length fr σ) H4 s4 where
 ok:=oU I Z hC hf ho
 os:=os
 bare:=bare
 base:=un
 loc:=by
  obtain⟨m,hm⟩:=ns
  refine⟨m,hm,λi x v h1 h2 h3=>?_⟩
  unfold nfS at h2
  by_cases hi:i < own.length
  ·rw[List.getElem?_append_left (by simpa using hi),List.getElem?_replicate,if_pos hi] at h2
   cases h2
  ·rw[List.getElem?_append_right (by simpa using hi),l77,List.getElem?_map] at h2
   cases q:fr[i - own.length]? with
   |none=>rw[q] at h2;cases h2
   |some j=>
    rw[q] at h2
    have h2':(σ[j]?).join=some v:=Option.some.inj h2
    obtain⟨y,e1,e2,e3,e4⟩:=Z.free _ j q
    have ei:own.length+(i - own.length)=i:=by omega
    rw[ei] at e2
    have h1':N'[i]? = some x:=h1
    rw[e2] at h1'
    cases h1'
    have hs:σ[j]? = some (some v):=by
     cases r:σ[j]? with
     |none=>rw[r] at h2';cases h2'
     |some w=>rw[r] at h2';cases w with
      |none=>cases h2'
      |some w=>cases h2';rfl
    obtain⟨m0,_,hl⟩:=I.loc
    have vis:Vis X.env.scope x:=e3.elim (λz => .inr (.inl z)) λz => .inr (.inr z)
    obtain⟨u,ru,lk⟩:=hl j x v e1 hs vis
    refine⟨u,ru,?_⟩
    rcases lk with ⟨k,_⟩ |⟨_,c,ec,hc⟩
    ·rcases e3 with z |z <;> (rw[k] at z;cases z)
    ·obtain⟨c',ec'⟩:=Z.has x e4
     have:=Z.cells.look x c' ec'
     rw[ec] at this
     cases this
     exact .inr ⟨e4,c,ec',kc x c _ ec hc⟩
 cell:=λx c e=>by
  have e':=Z.cells.look x c e
  obtain⟨v,hv⟩:=I.cell x c e'
  exact⟨v,kc x c v e' hv⟩
 free:=fr4
 freeC:=λx c e=>by
  have e':=Z.cells.look x c e
  obtain⟨v,o,hv,_⟩:=I.cell x c e'
  refine un.free c o hv (I.freeC x c e') λhb=>?_
  exact(hf c hb).2.2.2.2.1 x c e' rfl
 pin:=λp hp=>absurd (show p∈([]:List (Addr×Obj)) from hp) (by simp)
 hok:=hok
 len:=by
  show (nfS own.length fr σ).length=N'.length
  unfold nfS
  rw[l5,l77,l6,Z.len]
 tk:=tk
theorem comp_out {σ':St}(I:Inv X pins σ H s)(hf:∀b∈fp,FpOk X pins H b){pins':List (Addr×Obj)}(J:Inv (be X scope cl C N' fp s H) pins' σ' H4 s4):Inv X pins σ H4 s4:=
 I.call' J.os J.base J.hok J.bare (λb hb=>⟨(hf b hb).2.2.2.1,(hf b hb).2.1,(hf b hb).2.2.2.2.1,(hf b hb).2.2.2.2.2⟩) J.tk
theorem jJ {C:Addr}{h':Heap}(I0:Inv X pins σ H s)(hC:s.heap.objs.size<=C){σ':St}(I:Inv X pins σ' H4 s4)(fr4:H4 C=none)(hs:Heap.SameBut C s4.heap h'):Inv X pins σ' H4 { s4 with heap:=h' }:=by
 refine I.turned (t':=s4.toks) (it:=C) (λb o hb e=>(hs.2 b hb).trans e) fr4 ?_ (.inr (l10 I0.sz hC)) ?_ ?_
 ·exact l45 (l26 I0.lt hC)
 ·intro x c e z
  obtain⟨v,q⟩:=I0.cell x c e
  exact absurd (l26 q.lt (by rw[z];exact hC)) (l43 _)
 ·intro p hp z
  exact absurd (l26 (Heap.lt_size (I0.pin p hp).1) (by rw[z];exact hC)) (l43 _)
end
def PTs (X:Cx)(ifs:List Expr)(t:TT):Prop:=
 ∀(pins:List (Addr×Obj)) (s:Shared) (σ:St) (H:Hp) (Q:Bool->Hp->Prop),Inv X pins σ H s->t σ H Q →
  wpAny (model X.prog X.w) X.A (forIn ifs true λc r=>if r=true then do let ok ← isTrue c X.env (eval c X.env);pure (ForInStep.yield ok) else pure (ForInStep.yield r)) (TP X pins σ Q) X.xe s
def tYes:TT:=λ_ H Q=>Q true H
theorem pts_nil {X:Cx}:PTs X [] tYes:=λ_ _ _ H _ I h=>wpAny_tests_nil ⟨H,I,h⟩
theorem pts_one {X:Cx}{c:Expr}{t:TT}(h:PT X c t):PTs X [c] t:=λpins s σ H Q I q=>wpAny_tests_one (h pins s σ H Q I q)
section
variable {prog:Program}{w:World}{A:Around}{R:Result->Shared->Prop}{s:Shared}
theorem jK {elt target iter:Expr}{ifs:List Expr}{scope:Scope}{pos:Pos}{it acc:Value}{env:Env}(I:Nat->Shared->Prop)
  (turn : ∀ n s, I n s -> wpAny (model prog w) A (pyNext it) (λr s₁=>match r with
   |none=>R (.ok .next) s₁
   | some v => wpAny (model prog w) A (letOwnedTupleGo target it v) (fun _ s₂ => wpAny (model prog w) A (assign target env v) (λ_ s₂=>
     wpAny (model prog w) A (forIn ifs true fun c r => if r = true then do let ok ← isTrue c env (eval c env); pure (ForInStep.yield ok) else pure (ForInStep.yield r)) (λok s₃=>
      if ok = true then wpAny (model prog w) A (eval elt env) (λx s₄=>
       wpAny (model prog w) A (call (.builtin "list.append") [acc,x]) (λ_ s₅=>∃m,m < n/\I m s₅) (λ_ _=>False) s₄) (λ_ _=>False) s₃
      else ∃m,m < n/\I m s₃) (λ_ _=>False) s₂) (λ_ _=>False) s₂) (λ_ _=>False) s₁) (λ_ _=>False) s)
  (n:Nat)(h:I n s):
  codeAny (model prog w) A (.compLoop (.ListComp elt [⟨target,iter,ifs,0⟩] scope pos) 0 it acc env) R s:=by
 have no:∀{E:Value->Shared->Prop} (e:Value) (s':Shared),(λ_ _=>False:Value->Shared->Prop) e s'->E e s':=λ_ _ z=>False.elim z
 refine codeAny_loop rfl I (λn s hI=>?_) n h
 show wpAny _ A ((compTurn (.ListComp elt [⟨target,iter,ifs,0⟩] scope pos) 0 it acc env).onRaise (λx=>do noteFrame x env;theTreesLotGoes x)) _ _ s
 refine wpAny_noted ?_
 rw[compTurn_list]
 refine wpAny_bind (wpAny_standAt (wpAny_bind (wpAny_mono (turn n s hI) (λr s₁ h₁=>?_) no)))
 cases r with
 |none=>exact wpAny_pure h₁
 |some v=>
  refine wpAny_bind (wpAny_mono h₁ (λ_ s₂ h₂=>?_) no)
  refine wpAny_bind (wpAny_mono h₂ (λ_ s₂ h₂=>wpAny_bind (wpAny_mono h₂ (λok s₃ h₃=>?_) no)) no)
  cases ok with
  |false=>exact wpAny_pure ⟨rfl,h₃⟩
  |true=>
   exact wpAny_bind (wpAny_bind (wpAny_mono h₃ (λx s₄ h₄=>wpAny_bind (wpAny_mono h₄ (λ_ s₅ h₅=>wpAny_pure (wpAny_pure ⟨rfl,h₅⟩)) no)) no))
end
def nfLe (k:Nat)(fr:List Nat)(σ σ2:St):Prop:=σ2.length=(nfS k fr σ).length/\∀(i:Nat) (v:V),(nfS k fr σ)[i]? = some (some v)->σ2[i]? = some (some v)
theorem nfLe.refl (k:Nat)(fr:List Nat)(σ:St):nfLe k fr σ (nfS k fr σ):=⟨rfl,λ_ _ h=>h⟩
theorem nfLe.set {k:Nat}{fr:List Nat}{σ σ2:St}{i:Nat}(h:nfLe k fr σ σ2)(hi:i < k)(x:Option V):nfLe k fr σ (σ2.set i x):=by
 refine⟨by rw[l78];exact h.1,λj v e=>?_⟩
 by_cases hj:i=j
 ·subst hj
  unfold nfS at e
  rw[List.getElem?_append_left (by simpa using hi),List.getElem?_replicate,if_pos hi] at e
  cases e
 ·rw[List.getElem?_set_ne hj]
  exact h.2 j v e
def rLC (k:Nat)(fr:List Nat)(g:TG)(tt:TT)(te:TE)(σ:St)(J:It)(H1:Hp)(Q:Addr->Hp->Prop):Prop:=
 ∀D,H1 D=none->∃W:Nat->Nat->List V->Hp->Prop,(∃m,W 0 m [] (upd H1 D (.lst [])))/\∀i m acc H,W i m acc H->H D=some (.lst acc) ∧
  ((J.stop i H /\ Q D H) ∨ (J.go i H/\∀x H',J.yld i H x H'->g x (nfS k fr σ) H' λσ2 H2=>nfLe k fr σ σ2/\tt σ2 H2 λb H3=>
   if b=true then te σ2 H3 λy H4=>H4 D=some (.lst acc)/\acc.length < sizeLine/\∃m',m' < m/\W (i+1) m' (acc++[y]) (upd H4 D (.lst (acc++[y])))
   else ∃m',m' < m/\W (i+1) m' acc H3))
def tLC (wi:TI)(k:Nat)(fr:List Nat)(g:TG)(tt:TT)(te:TE):TE:=λσ H Q=>wi σ H λJ H1=>rLC k fr g tt te σ J H1 λD H'=>Q (.ref D) H'
section
variable {X:Cx}{scope:Scope}{cl:List (Str×Addr)}{own:List Str}{fr:List Nat}{N':List Str}{tg iter elt:Expr}{ifs:List Expr}{wi:TI}{g:TG}{tt:TT}{te:TE}{pos:Pos}
structure TurnP (Cm:Cx->Prop)(P:Program)(w:World)(K:PySem.W.Frag)(tg:Expr)(J:It)(fp:List Addr)(it:Addr)(tn:Nat->Heap->Prop):Prop where
 obj:∀i h,tn i h->∀b∈fp,∃o,h.get? b=some o/\∀v,o.data ≠ .cell v
 keep:∀i h h',tn i h->(∀b∈fp,∀o,h.get? b=some o->h'.get? b=some o)->tn i h'
 item:∀(X:Cx),X.prog=P->X.w=w->X.K=K->Cm X->∀(i:Nat) (pins:List (Addr×Obj)) (s:Shared) (σ:St) (H:Hp) (E:Value->Shared->Prop),Inv X pins σ H s->(∀b∈fp,FpOk X pins H b)->tn i s.heap->J.go i H →
  wpAny (model P w) X.A (pyNext (.ref it)) (λr s1=>∃u,r=some u ∧
   wpAny (model P w) X.A (letOwnedTupleGo tg (.ref it) u) (λ_ s2=>∃x H',Inv X pins σ H' s2/\RelV x u/\J.yld i H x H'/\tn (i+1) s2.heap/\∀b∈fp,H' b=none) E s1) E s
 done:∀(X:Cx),X.prog=P->X.w=w->X.K=K->Cm X->∀(i:Nat) (pins:List (Addr×Obj)) (s:Shared) (σ:St) (H:Hp) (E:Value->Shared->Prop),Inv X pins σ H s->(∀b∈fp,FpOk X pins H b)->tn i s.heap->J.stop i H →
  wpAny (model P w) X.A (pyNext (.ref it)) (λr s1=>r=none/\Inv X pins σ H s1) E s
 self:∀(A:Around) (i:Nat) (s:Shared) (Q:Value->Shared->Prop) (E:Value->Shared->Prop),tn i s.heap->Q (.ref it) s->wpAny (model P w) A (pyIter (.ref it)) Q E s
theorem Turn.toP {P:Program}{w:World}{K:PySem.W.Frag}{tg:Expr}{J:It}{fp:List Addr}{it:Addr}{tn:Nat->Heap->Prop}(T:Turn P w K tg J fp it tn):TurnP (λX=>X.calm=true) P w K tg J fp it tn:=⟨T.obj,T.keep,T.item,T.done,T.self⟩
theorem io {pins:List (Addr×Obj)}{σ:St}{H:Hp}{s:Shared}{it:Addr}{fp:List Addr}{tn:Nat->Heap->Prop}{J:It}{Q:Addr->Hp->Prop}{RR:Value->Addr->Result->Shared->Prop}{E:Value->Shared->Prop}
  {Cm:Cx->Prop}(hc:∀C,Cm (be X scope cl C N' fp s H))(Z:CompN X scope cl own fr N')(hcell:∀y∈scope.names,y.2 ≠ .cell)
  (hg:∀C,PG (be X scope cl C N' fp s H) tg g)(ht:∀C,PTs (be X scope cl C N' fp s H) ifs tt)(he:∀C,PE (be X scope cl C N' fp s H) elt te)
  (I:Inv X pins σ H s)(T:TurnP Cm X.prog X.w X.K tg J fp it tn)(st:tn 0 s.heap)(hf:∀b∈fp,FpOk X pins H b)(q:rLC own.length fr g tt te σ J H Q)
  (hRR:∀D C s' H' ,s.heap.objs.size<=C->(∃m,s'.heap.Ns C m)->H' C=none->Inv X pins σ H' s'->Q D H'->RR (.ref D) C (.ok .next) s'):
  wpAny (model X.prog X.w) X.A (newList []) (fun acc s₃ => wpAny (model X.prog X.w) X.A (newFunctionEnv scope X.env.globals cl [] X.env.qual none .none (some X.env)) (λcenv s₄=>
   codeAny (model X.prog X.w) X.A (.compStart (.ListComp elt [⟨tg,iter,ifs,0⟩] scope pos) 0 (.ref it) acc { cenv with scope:=relabel scope X.env }) (RR acc cenv.locals) s₄) E s₃) E s:=by
 refine wpAny_newObj_type (wpAny_newFunctionEnv hcell (by intro y hy;simp at hy) (λh₁ hns₁ hsb₁=>?_) Z.kind)
 dsimp only at hns₁ hsb₁ ⊢
 generalize hH2:s.heap.push { cls := .type "list",dict:=none,data := .seq ([]:List Value).toArray }=H2 at hns₁ hsb₁ ⊢
 have hC:H2.objs.size=s.heap.objs.size+1:=by rw[<- hH2,Heap.size_push]
 have hCle:s.heap.objs.size<=H2.objs.size:=by rw[hC];exact Nat.le_succ _
 have hDC:s.heap.objs.size≠H2.objs.size:=by rw[hC];exact l29 (l76 _)
 have old:∀b o,s.heap.get? b=some o->h₁.get? b=some o:=λb o e=>
  hsb₁.extBut b o (l29 (l26 (Heap.lt_size e) hCle)) (Heap.get?_push_of_some _ (hH2▸Heap.get?_push_of_some _ e))
 have hD:h₁.get? s.heap.objs.size=some { cls := .type "list",dict:=none,data := .seq ([]:List Value).toArray }:=
  hsb₁.extBut _ _ hDC (Heap.get?_push_of_some _ (hH2▸Heap.get?_push_size _ rfl))
 have ho:=T.obj _ _ st
 have frD:H s.heap.objs.size=none:=I.hok.fresh (l7 _)
 have frC:H H2.objs.size=none:=I.hok.fresh hCle
 obtain⟨W,⟨m0,w0⟩,turn⟩:=q s.heap.objs.size frD
 have hok1:HOk X.prog X.w (upd H s.heap.objs.size (.lst [])) h₁:=I.hok.laid old (l7 _) ⟨l14 _,[],0, .nil,hD⟩
 have un1:Un (frs X.stack) fp H (upd H s.heap.objs.size (.lst [])) s.heap h₁:=Un.laid old (l7 _) frD
 have C1:upd H s.heap.objs.size (.lst []) H2.objs.size=none:=by rw[af (Ne.symm hDC)];exact frC
 have fpD:∀b∈fp,b≠s.heap.objs.size:=λb hb z=>by
  obtain⟨o,e,_⟩:=ho b hb
  exact absurd (Heap.lt_size e) (by rw[z];exact l43 _)
 have J0:∀t,0 < t->Inv (be X scope cl H2.objs.size N' fp s H) [] (nfS own.length fr σ) (upd H s.heap.objs.size (.lst [])) { s with heap:=h₁,toks:=t }:=λt ht=>
  comp_inv I Z hCle hf ho rfl I.bare un1 ⟨_,hns₁⟩ (λx c v e ⟨o,e1,e2⟩=>⟨o,old c o e1,e2⟩) C1 hok1 ht
 have st1:tn 0 h₁:=T.keep _ _ _ st λb _ o e=>old b o e
 have loop:∀s₃:Shared,s₃={ s with heap:=h₁,toks:=s.toks+([]:List (Str×Value)).length } →
   codeAny (model X.prog X.w) X.A (.compLoop (.ListComp elt [⟨tg,iter,ifs,0⟩] scope pos) 0 (.ref it) (.ref s.heap.objs.size) (compEnvC scope cl H2.objs.size X.env)) (RR (.ref s.heap.objs.size) H2.objs.size) s₃:=by
  rintro s₃ rfl
  generalize hX:be X scope cl H2.objs.size N' fp s H=X' at J0
  have hg':PG X' tg g:=by rw[<- hX];exact hg _
  have ht':PTs X' ifs tt:=by rw[<- hX];exact ht _
  have he':PE X' elt te:=by rw[<- hX];exact he _
  have eP:X'.prog=X.prog:=by rw[<- hX]
  have eW:X'.w=X.w:=by rw[<- hX]
  have eK:X'.K=X.K:=by rw[<- hX]
  have eA:X'.A=X.A:=by rw[<- hX]
  have eE:X'.env=compEnvC scope cl H2.objs.size X.env:=by rw[<- hX]
  have eX:X'.xe=λ_ _=>False:=by rw[<- hX]
  have eC:Cm X':=by rw[<- hX];exact hc _
  have fpX:∀{H':Hp},(∀b∈fp,H' b=none)->∀b∈fp,FpOk X' [] H' b:=λhn b hb=>by
   rw[<- hX]
   have ok:=oU I Z hCle hf ho
   refine⟨hn b hb,(ok.exf b hb).1,ok.exfs b hb, .inl hb,(ok.exf b hb).2,λp hp=>absurd (show p∈([]:List (Addr×Obj)) from hp) (by simp)⟩
  refine jK (λn s'=>∃i acc H',Inv X' [] (nfS own.length fr σ) H' s'/\tn i s'.heap/\(∀b∈fp,H' b=none)/\W i n acc H') ?_ m0 ⟨0,[],_,J0 _ (by have:=I.tk;omega),st1,λb hb=>by rw[af (fpD b hb)];exact(hf b hb).1,w0⟩
  rintro n s3 ⟨i,acc,H3,I3,st3,fr3,w3⟩
  obtain⟨hDa,turn3⟩:=turn i n acc H3 w3
  rcases turn3 with ⟨stop,qn⟩ |⟨go,step⟩
  ·have:=T.done X' eP eW eK eC i [] s3 _ H3 (λ_ _=>False) I3 (fpX fr3) st3 stop
   rw[eA] at this
   refine thn this λr s4 ⟨hr,I4⟩=>?_
   subst hr
   show RR _ _ _ _
   have I4':Inv (be X scope cl H2.objs.size N' fp s H) [] (nfS own.length fr σ) H3 s4:=by rw[hX];exact I4
   obtain⟨m,hm,_⟩:=I4'.loc
   exact hRR _ _ s4 H3 hCle ⟨m,hm⟩ I4'.free (comp_out I hf I4') qn
  ·have:=T.item X' eP eW eK eC i [] s3 _ H3 (λ_ _=>False) I3 (fpX fr3) st3 go
   rw[eA] at this
   refine thn this λr s4 ⟨u,hr,h4⟩=>?_
   subst hr
   show wpAny _ _ (letOwnedTupleGo tg (.ref it) u) _ _ s4
   refine thn h4 λ_ s5 ⟨x,H5,I5,r5,y5,st5,fr5⟩=>?_
   have I5':=I5.pinned (fpX fr5) (T.obj _ _ st5)
   have back:∀{σ7:St} {H7:Hp} {s7:Shared},Inv X' ([]++il fp s5.heap) σ7 H7 s7->tn (i+1) s7.heap/\∀b∈fp,H7 b=none:=λ{σ7 H7 s7} I7=>by
    refine⟨T.keep _ _ _ st5 λb hb o e=>(I7.pin (b,o) (l30 _ (l30 _ (dt hb e)))).1,λb hb=>?_⟩
    obtain⟨o,e,d⟩:=T.obj _ _ st5 b hb
    exact(I7.pin (b,o) (l30 _ (l30 _ (dt hb e)))).2.1
   have g5:=hg' _ s5 _ H5 x u _ I5' r5 (step x H5 y5)
   rw[eP,eW,eA,eE,eX] at g5
   refine thn g5 λ_ s6 ⟨σ6,H6,I6,nf6,q6⟩=>?_
   have t6:=ht' _ s6 σ6 H6 _ I6 q6
   rw[eP,eW,eA,eE,eX] at t6
   refine thn t6 λok s7 ⟨H7,I7,q7⟩=>?_
   have again:∀{H8:Hp} {s8:Shared} {acc8:List V},Inv X' ([]++il fp s5.heap) σ6 H8 s8->(∃m',m' < n/\W (i+1) m' acc8 H8) →
     ∃m,m < n/\∃i acc H',Inv X' [] (nfS own.length fr σ) H' s8/\tn i s8.heap/\(∀b∈fp,H' b=none)/\W i m acc H':=λ{H8 s8 acc8} I8 ⟨m',hm,w8⟩=>
    ⟨m',hm,i+1,acc8,H8,I8.unpinned.weak nf6.1.symm nf6.2,(back I8).1,(back I8).2,w8⟩
   cases ok with
   |false=>
    have q7':∃m',m' < n/\W (i+1) m' acc H7:=by rw[if_neg Bool.false_ne_true] at q7;exact q7
    show if false=true then _ else _
    rw[if_neg Bool.false_ne_true]
    exact again I7 q7'
   |true=>
    rw[if_pos rfl] at q7
    show if true=true then _ else _
    rw[if_pos rfl]
    have e7:=he' _ s7 σ6 H7 _ I7 q7
    rw[eP,eW,eA,eE,eX] at e7
    refine thn e7 λyv s8 ⟨y,H8,I8,r8,hD8,hz8,m',hm,w8⟩=>?_
    have a8:=aP _ s8 σ6 H8 (.ref s.heap.objs.size) [y] (.ref s.heap.objs.size) [yv] (λ_ H9=>H9=upd H8 s.heap.objs.size (.lst (acc++[y]))) I8 rfl (.cons r8 .nil) ⟨_,acc,y,rfl,rfl,hD8,hz8,rfl⟩
    rw[eP,eW,eA,eX] at a8
    refine thn a8 λ_ s9 ⟨_,H9,I9,_,e9⟩=>?_
    subst e9
    exact again I9 ⟨m',hm,w8⟩
 exact codeAny_compStart_list (loop _ rfl) (T.self _ 0 _ _ _ st1 (loop _ rfl))
theorem pe_lc (hc:X.calm=true)(Z:CompN X scope cl own fr N')(hcell:∀y∈scope.names,y.2 ≠ .cell)(hnames:∀x∈scope.names,x.2 = .local->scope.names.lookup x.1=some .local)(hclos:closureFor scope X.env=pure cl)
  (hi:PI X tg iter wi)(hg:∀C fp s H,PG (be X scope cl C N' fp s H) tg g)(ht:∀C fp s H,PTs (be X scope cl C N' fp s H) ifs tt)(he:∀C fp s H,PE (be X scope cl C N' fp s H) elt te)
  (hs:∀x,foldedSetIterable iter X.env x=pure x:=by intro _;rfl):PE X (.ListComp elt [⟨tg,iter,ifs,0⟩] scope pos) (tLC wi own.length fr g tt te):=by
 intro pins s σ H Q I h
 rw[eval_ListComp]
 refine wpAny_comprehension_free (use:=none) rfl hs hclos Z.kind hnames (thn (hi pins s σ H _ I h) λv s1 h1=>thn h1 λitv s2 h2=>?_)
 obtain⟨it,fp,tn,J,H2,e,I2,T,st2,f2,q2⟩:=h2
 subst e
 refine io (Cm:=λX=>X.calm=true) (λ_=>hc) Z hcell (λC=>hg C _ _ _) (λC=>ht C _ _ _) (λC=>he C _ _ _) I2 T.toP st2 f2 q2 (RR:=λacc C=>compPost (model X.prog X.w) X.A X.xe none (EP X pins σ Q) acc C) λD C s' H' hC ⟨m,hm⟩ fC I' q'=>?_
 exact⟨m,hm,λh' hs'=>⟨.ref D,H',jJ I2 hC I' fC hs',rfl,q'⟩⟩
def tSetLC (i:Nat)(wi:TI)(k:Nat)(fr:List Nat)(g:TG)(tt:TT)(te:TE):TS:=λD σ H=>wi σ H λJ H1=>rLC k fr g tt te σ J H1 λa H'=>D.nx (σ.set i (some (.ref a))) H'
theorem ps_setlc {i:Nat}{x:Str}{pos' spos:Pos}(hN:X.N.Nodup)(hix:X.N[i]? = some x)(hx:X.env.scope.names.lookup x=some .local)(hc:X.calm=true)(Z:CompN X scope cl own fr N')(hcell:∀y∈scope.names,y.2 ≠ .cell)
  (hnames:∀x∈scope.names,x.2 = .local->scope.names.lookup x.1=some .local)(hclos:closureFor scope X.env=pure cl)
  (hi:PI X tg iter wi)(hg:∀C fp s H,PG (be X scope cl C N' fp s H) tg g)(ht:∀C fp s H,PTs (be X scope cl C N' fp s H) ifs tt)(he:∀C fp s H,PE (be X scope cl C N' fp s H) elt te)
  (hs:∀x,foldedSetIterable iter X.env x=pure x:=by intro _;rfl) (hsw:swapsWith (.ListComp elt [⟨tg,iter,ifs,0⟩] scope pos) (some (.Name x pos')) spos.line X.env=pure true:=by rfl):
  PS X (.Assign [.Name x pos'] (.ListComp elt [⟨tg,iter,ifs,0⟩] scope pos) spos) (tSetLC i wi own.length fr g tt te):=by
 intro pins s σ H D I h
 rw[exec_Assign_Name_used _ _ _ _ hsw]
 refine wpAny_bind (wpAny_standAt (wpAny_bind ?_))
 show wpAny _ X.A (do let _ ← comprehension (.ListComp elt [⟨tg,iter,ifs,0⟩] scope pos) scope X.env _ (newList []) false (eval iter X.env) (some (assign (.Name x pos') X.env))) _ _ s
 refine wpAny_bind (wpAny_mono (wpAny_comprehension_free (use:=some (assign (.Name x pos') X.env)) (Q:=λ_ s'=>SP X pins D .next s') rfl hs hclos Z.kind hnames
  (thn (hi pins s σ H _ I h) λv s1 h1=>thn h1 λitv s2 h2=>?_)) (λ_ s' hq=>wpAny_pure (wpAny_pure hq)) λ_ _ e=>e)
 obtain⟨it,fp,tn,J,H2,e,I2,T,st2,f2,q2⟩:=h2
 subst e
 refine io (Cm:=λX=>X.calm=true) (λ_=>hc) Z hcell (λC=>hg C _ _ _) (λC=>ht C _ _ _) (λC=>he C _ _ _) I2 T.toP st2 f2 q2 (RR:=λacc C=>compPost (model X.prog X.w) X.A X.xe (some (assign (.Name x pos') X.env)) (λ_ s'=>SP X pins D .next s') acc C) λa C s' H' hC ⟨m,hm⟩ fC I' q'=>?_
 show wpAny _ _ (assign (.Name x pos') X.env (.ref a)) _ _ s'
 have neC:∀b,b=X.env.locals ∨ X.env.cells.lookup x=some b->C≠b:=λb hb z=>by
  subst z
  rcases hb with e |e
  ·exact l45 (l26 I2.lt hC) e
  ·obtain⟨v,q⟩:=I2.cell x C e
   exact absurd (l26 q.lt hC) (l43 _)
 refine wpAny_assign_Name (jv I' hN hix (.inl hx) (v := .ref a) rfl (λs'' I'' ⟨b,sb,eb⟩=>?_) (.inr hx))
 refine⟨m,hm.sameBut sb (neC b eb),λh' hs'=>⟨_,H',jJ I2 hC I'' fC hs',q'⟩⟩
end
end L2
namespace L2
open PySem PySem.Spec PyProof.Rows
open Builtin Builtin.Str
section
variable {X:Cx}
theorem mv:∀{ys:List Str} {us:List Value},Vals (ys.map V.str) us->∃l:List (Str×Tok),us=strValues l/\l.map (·.1)=ys
 | [],us,r=>by
  rw[l65] at r
  cases r
  exact⟨[],rfl,rfl⟩
 |y::ys,us,r=>by
  rw[l19] at r
  cases r with
  |cons r1 r2=>
   obtain⟨t,e⟩:=r1
   obtain⟨l,e1,e2⟩:=mv r2
   subst e
   subst e1
   exact⟨(y,t)::l,rfl,by rw[l19,e2]⟩
theorem mw:∀(l:List (Str×Tok)),Vals ((l.map (·.1)).map V.str) (strValues l)
 | [] => .nil
 |(y,t)::l => .cons ⟨t,rfl⟩ (mw l)
def rSplit:V->List V->Hp->VK->Prop:=λx vs H Q=>∃z y,x = .str z/\vs=[.str y]/\(y.length==0)=false/\z.length<=1000000/\∀p,H p=none->Q (.ref p) (upd H p (.lst ((Txt.split z y).map V.str)))
theorem oV (z y:Str)(hz:z.length<=1000000):(partsBetween z (occurrences z y 0 z.length (z.length+1)) y.length).length<=sizeLine:=by
 have h1:=StrLaws.occ_length_le z y 0 z.length (z.length+1)
 have h2:sizeLine=16777216:=sizeLine_eq
 unfold partsBetween
 simp only[l6,List.length_zip,l8,l5,l23]
 omega
theorem mt_split:MtR X "str.split" rSplit:=by
 intro pins s σ H x vs v us Q I rx rv h
 obtain⟨z,y,rfl,rfl,hy,hz,q⟩:=h
 obtain⟨t,rfl⟩:=rx
 obtain⟨u,rfl,t2,rfl⟩:=rv.one
 have hl:=oV z y hz
 have hs:sizeLine=16777216:=sizeLine_eq
 have fin:∀(l:List (Str×Tok)) (k:Nat),0 < k->l.map (·.1)=Txt.split z y->l.length<=sizeLine->EP X pins σ Q (.ref s.heap.objs.size) { s with heap:=s.heap.push { cls := .type "list",data := .seq (strValues l).toArray },toks:=k }:=λl k hk e hn=>by
  have r:=mw l
  rw[e] at r
  have hlen:((Txt.split z y).map V.str).length<=sizeLine:=by rw[l6,<- e,l6];exact hn
  exact⟨.ref _,_,I.lnew (t':=k) r hlen hk,rfl,q _ I.fresh⟩
 cases h1:(decide (z.length < y.length)||decide (strKind z < strKind y))
 ·cases hf:(occurrences z y 0 z.length (z.length+1)).isEmpty
  ·refine call_meets F.slot_str_split (typeIs_str _ _ _) F.entry_str_split (F.args_str_split_2 _ _) (meets_str_split_sep z y t t2 h1 hy hf (by omega) hl) ?_
   show wants (EP X pins σ Q) X.xe _ { s with toks:=_,heap:=s.heap.push { cls := .type "list",data := .seq (strsFrom s.toks (partsBetween z (occurrences z y 0 z.length (z.length+1)) y.length)).toArray } }
   rw[strsFrom_eq]
   refine fin (numbered s.toks _) _ (by have:=I.tk;omega) ((numbered_texts _ _).trans ((if_neg (ne_true_of_eq_false h1)).trans (if_neg (ne_true_of_eq_false hf))).symm) ?_
   have e:=congrArg List.length (numbered_texts s.toks (partsBetween z (occurrences z y 0 z.length (z.length+1)) y.length))
   rw[l6] at e
   rw[e]
   exact hl
  ·exact call_meets F.slot_str_split (typeIs_str _ _ _) F.entry_str_split (F.args_str_split_2 _ _) (meets_str_split_not_found z y t t2 h1 hy hf)
    (fin [(z,t)] s.toks I.tk ((if_neg (ne_true_of_eq_false h1)).trans (if_pos hf)).symm (by show 1<=sizeLine;decide))
 ·exact call_meets F.slot_str_split (typeIs_str _ _ _) F.entry_str_split (F.args_str_split_2 _ _) (meets_str_split_cannot_occur z y t t2 h1)
   (fin [(z,t)] s.toks I.tk (if_pos h1).symm (by show 1<=sizeLine;decide))
def rJoin (K:PySem.W.Frag):V->List V->Hp->VK->Prop:=λx vs H Q=>∃z a ys,x = .str z/\vs=[.ref a]/\SqL K H a (ys.map V.str)/\(ys.map (·.length)).sum+ys.length * z.length<=sizeLine/\Q (.str (Txt.join z ys)) H
theorem jL (z:Str):∀(ys:List Str) (n:Nat),ys.foldl (λ(n:Nat) (s:Str)=>n+s.length+z.length) n=n+((ys.map (·.length)).sum+ys.length * z.length)
 | [],n=>by simp
 |y::ys,n=>by
  rw[l79,jL z ys,l19,l35,l8,l54]
  omega
theorem dX:MtR X "str.join" (rJoin X.K):=by
 intro pins s σ H x vs v us Q I rx rv h
 obtain⟨z,a,ys,rfl,rfl,hq,hz,q⟩:=h
 obtain⟨t,rfl⟩:=rx
 obtain⟨u,rfl,ru⟩:=rv.one
 cases ru
 obtain⟨its,r,pl,hn⟩:=I.list hq
 obtain⟨l,rfl,e⟩:=mv r
 refine wpAny_with_toks (n:=1) I.tk (SC.join (texts:=ys) pl.isList e ?_ λt' k htk=>⟨.str (Txt.join z ys),H,I.tok _ htk,⟨_,rfl⟩,q⟩)
 unfold JoinOk tooLong
 rw[<- Array.foldl_toList,List.toList_toArray,jL,l66]
 simpa using hz
def rS2 (f:Str->Str->V):V->List V->Hp->VK->Prop:=λx vs H Q=>∃z y,x = .str z/\vs=[.str y]/\z.length<=sizeLine/\Q (f z y) H
theorem jM:MtR X "str.rstrip" (rS2 λz y => .str (Txt.rstripChars z y)):=by
 intro pins s σ H x vs v us Q I rx rv h
 obtain⟨z,y,rfl,rfl,hz,q⟩:=h
 obtain⟨t,rfl⟩:=rx
 obtain⟨u,rfl,t2,rfl⟩:=rv.one
 exact wpAny_with_toks (n:=1) I.tk (SC.rstripChars (λt' k htk=>⟨.str _,H,I.tok _ htk,⟨_,rfl⟩,q⟩) hz)
theorem gj:MtR X "str.lstrip" (rS2 λz y => .str (Txt.lstripChars z y)):=by
 intro pins s σ H x vs v us Q I rx rv h
 obtain⟨z,y,rfl,rfl,hz,q⟩:=h
 obtain⟨t,rfl⟩:=rx
 obtain⟨u,rfl,t2,rfl⟩:=rv.one
 exact wpAny_with_toks (n:=1) I.tk (SC.lstripChars (λt' k htk=>⟨.str _,H,I.tok _ htk,⟨_,rfl⟩,q⟩) hz)
theorem mt_strip:MtR X "str.strip" (rS2 λz y => .str (Txt.stripChars z y)):=by
 intro pins s σ H x vs v us Q I rx rv h
 obtain⟨z,y,rfl,rfl,hz,q⟩:=h
 obtain⟨t,rfl⟩:=rx
 obtain⟨u,rfl,t2,rfl⟩:=rv.one
 exact wpAny_with_toks (n:=1) I.tk (SC.stripChars (λt' k htk=>⟨.str _,H,I.tok _ htk,⟨_,rfl⟩,q⟩) hz)
theorem aO:MtR X "str.startswith" (rS2 λz y => .bl (Txt.startswith z y)):=by
 intro pins s σ H x vs v us Q I rx rv h
 obtain⟨z,y,rfl,rfl,hz,q⟩:=h
 obtain⟨t,rfl⟩:=rx
 obtain⟨u,rfl,t2,rfl⟩:=rv.one
 exact SC.startswith ⟨.bl _,H,I,rfl,q⟩
theorem kU:MtR X "str.endswith" (rS2 λz y => .bl (Txt.endswith z y)):=by
 intro pins s σ H x vs v us Q I rx rv h
 obtain⟨z,y,rfl,rfl,hz,q⟩:=h
 obtain⟨t,rfl⟩:=rx
 obtain⟨u,rfl,t2,rfl⟩:=rv.one
 exact SC.endswith ⟨.bl _,H,I,rfl,q⟩
theorem mt_find:MtR X "str.find" (rS2 λz y => .int (Txt.find z y)):=by
 intro pins s σ H x vs v us Q I rx rv h
 obtain⟨z,y,rfl,rfl,hz,q⟩:=h
 obtain⟨t,rfl⟩:=rx
 obtain⟨u,rfl,t2,rfl⟩:=rv.one
 exact SC.find ⟨.int _,H,I.tok _,⟨_,rfl⟩,q⟩
theorem mt_lower:MtR X "str.lower" (λx vs H Q=>∃z,x = .str z/\vs=[]/\z.length<=1000000/\Q (.str (Txt.lower z)) H):=by
 intro pins s σ H x vs v us Q I rx rv h
 obtain⟨z,rfl,rfl,hz,q⟩:=h
 obtain⟨t,rfl⟩:=rx
 cases rv.zero
 exact SCL.lower (by omega) λ_=>⟨.str _,H,I.tok _,⟨_,rfl⟩,q⟩
theorem nM {o:Expr}{to:TE}{y z:Str}{jy jz:Nat}{py pz apos cpos:Pos}(ho:PE X o to)(hyz:(y==z)=false)(hzl:z.length<=14)
  (hbase:attributeBase o "replace" X.env (eval o X.env)=eval o X.env:=by rfl) (hline:(apos.endLine==cpos.line)=true:=by rfl):
  PE X (.Call (.Attribute o "replace" apos) [.Constant (.str y) jy py, .Constant (.str z) jz pz] [] cpos) (λσ H Q=>to σ H λx H1=>∃w,x = .str w/\w.length<=1000000/\Q (.str (Txt.replace w y z)) H1):=by
 intro pins s σ H Q I h
 refine wpAny_Call_method_late hbase (by rfl) hline rfl (thn (ho pins s σ H _ I h) λv s1 ⟨x,H1,I1,r1,q1⟩=>?_)
 obtain⟨w,rfl,hw,q⟩:=q1
 obtain⟨t,rfl⟩:=r1
 refine⟨"str","str.replace",PySem.F.plainAttrs_str,F.slot_str_replace,F.type_str_replace,typeIs_str _ _ _,(λ_ e=>nomatch e),?_⟩
 refine Calls.callWith_builtin (by rfl) (Calls.evalArgs_plain ?_)
 refine Calls.spliced_cons (Calls.Constant_str (k:=jy) (pos:=py) ?_)
 refine Calls.spliced_cons (Calls.Constant_str (k:=jz) (pos:=pz) ?_)
 refine Calls.spliced_nil ?_
 have h0:=I1.tk
 refine wpAny_with_toks (n:=1) (by show 1<=s1.toks+1+1;omega) (SC.replaceW (Nat.pos_iff_ne_zero.mp h0) (Nat.succ_ne_zero _) (l29 (l76 _)) hyz (by omega) hzl λt' k htk=>?_)
 exact⟨.str (Txt.replace w y z),H1,(I1.tok _ htk),⟨_,rfl⟩,q⟩
theorem dz:OpR X (binaryOp .Mult) (λx y H Q=>∃z n,x = .str z/\y = .int n/\z.length=1/\0<=n/\n<=1000/\Q (.str (Txt.mul z n)) H):=by
 intro pins s σ H x y v u Q I rx ry h
 obtain⟨z,n,rfl,rfl,hz,h0,h1,q⟩:=h
 obtain⟨t,rfl⟩:=rx
 obtain⟨t',rfl⟩:=ry
 refine wpAny_with_toks (n:=1) I.tk (SB.mul ?_ λt' k htk=>⟨.str (Txt.mul z n),H,I.tok _ htk,⟨_,rfl⟩,q⟩)
 have hs:sizeLine=16777216:=sizeLine_eq
 refine⟨?_,λ_ _=>?_,λ_ _=>?_⟩
 ·have e1:decide (n < -(2 ^ 63:Int))=false:=decide_eq_false (by omega)
  have e2:decide (n ≥ 2 ^ 63)=false:=decide_eq_false (by omega)
  rw[e1,e2];rfl
 ·rw[hz]
  have hn:n=0 ∨ 0 < n:=by omega
  intro q
  have h9:(2 ^ 63 - 1:Int) / n ≥ 1:=by
   rename_i a _
   have hp:0 < n:=by omega
   exact(l86 hp).mpr (by omega)
  omega
 ·unfold tooLong
  rw[hz]
  exact decide_eq_false (by omega)
def rSlS:V->Option Int->Option Int->Hp->VK->Prop:=λx lo hi H Q=>∃z,x = .str z/\z.length<=sizeLine/\Q (.str (Txt.slice z lo hi)) H
theorem bq:SlR X rSlS:=by
 intro pins s σ H x v vl vu lo hi sl Q I rx hs pl pu h
 obtain⟨z,rfl,hz,q⟩:=h
 obtain⟨t,rfl⟩:=rx
 refine⟨"str",_,F.slot_str_getitem.lookup,typeIs_str _ _ _,?_⟩
 have fin:∀(l u:Option (Int×Tok)),l.map (·.1)=lo->u.map (·.1)=hi->(sliceMade z t l u none).post (EP X pins σ Q) s:=by
  intro l u el eu
  subst el eu
  unfold sliceMade
  unfold Txt.slice at q
  have e:slicePicked z l u none=strSliceIndices (l.map (·.1)) (u.map (·.1)) 1 z.length:=rfl
  rw[e]
  show (if ((1:Int)==1&&(strSliceIndices (l.map (·.1)) (u.map (·.1)) 1 z.length).length==z.length)=true then Made.val (.str z t) else Made.str ⟨((strSliceIndices (l.map (·.1)) (u.map (·.1)) 1 z.length).filterMap (z.cps[·]?)).toArray⟩).post (EP X pins σ Q) s
  by_cases c:(((1:Int)==1&&(strSliceIndices (l.map (·.1)) (u.map (·.1)) 1 z.length).length==z.length))=true
  ·rw[if_pos c]
   rw[if_pos c] at q
   exact⟨.str z,H,I,⟨_,rfl⟩,q⟩
  ·rw[if_neg c]
   rw[if_neg c] at q
   have hl:=Txt.slice_le z (l.map (·.1)) (u.map (·.1))
   unfold Txt.slice at hl
   rw[if_neg c] at hl
   exact⟨l10 hl hz, .str _,H,I.tok _,⟨_,rfl⟩,q⟩
 have go:∀(l u:Option (Int×Tok)),vl=partValue l->vu=partValue u->l.map (·.1)=lo->u.map (·.1)=hi->wpAny (model X.prog X.w) X.A (getItem (.str z t) (.ref sl)) (EP X pins σ Q) X.xe s:=by
  intro l u e1 e2 e3 e4
  subst e1 e2
  exact wpAny_getItem_str_slice (l:=l) (u:=u) (st:=none) hs rfl (fin l u e3 e4)
 cases pl with
 |none=>cases pu with
  |none=>exact go none none rfl rfl rfl rfl
  |int j tj=>exact go none (some (j,tj)) rfl rfl rfl rfl
 |int i ti=>cases pu with
  |none=>exact go (some (i,ti)) none rfl rfl rfl rfl
  |int j tj=>exact go (some (i,ti)) (some (j,tj)) rfl rfl rfl rfl
def Its (z:Str):It:=⟨λi _=>i < z.length,λi H x H'=>H'=H/\∃c,z.cps[i]? = some c/\x = .str ⟨#[c]⟩,λi _=>z.length<=i⟩
def iStr (tl:TE):TI:=λσ H R=>tl σ H λx H1=>∃z,x = .str z/\R (Its z) H1
theorem turn_str {P:Program}{w:World}{K:PySem.W.Frag}{x:Str}{px:Pos}(z:Str)(it:Addr)(ty:String)(t:Tok)(hty:ty="str_ascii_iterator" ∨ ty="str_iterator"):
  Turn P w K (.Name x px) (Its z) [it] it (λi h=>h.IsStrIter it ty z t i) where
 mem:=by simp
 obj:=λi h st b hb=>by
  have e:b=it:=by simpa using hb
  subst e
  obtain⟨o,ho,_,hd⟩:=st
  exact⟨o,ho,λv z=>by rw[hd] at z;cases z⟩
 keep:=λi h h' st k=>by
  obtain⟨o,ho,r⟩:=st
  exact⟨o,k it (by simp) o ho,r⟩
 item:=by
  intro X hP hw hK hc i pins s σ H E I hf st hg
  subst hP hw hK
  obtain⟨f0,f1,f2,f3,f4,f5⟩:=hf it (by simp)
  have hi:i < z.cps.size:=hg
  have hx:z.cps[i]? = some z.cps[i]:=by simp[hi]
  have fin:∀h',h'.IsStrIter it ty z t (i+1)->Heap.SameBut it s.heap h'->∃u,(some (Value.str ⟨#[z.cps[i]]⟩ s.toks):Option Value)=some u ∧
    wpAny (model X.prog X.w) X.A (letOwnedTupleGo (.Name x px) (.ref it) u) (λ_ s2=>∃x H',Inv X pins σ H' s2/\RelV x u/\(Its z).yld i H x H'/\s2.heap.IsStrIter it ty z t (i+1)/\∀b∈[it],H' b=none) E { s with heap:=h',toks:=s.toks+1 }:=
   λh' st' sb=>⟨_,rfl,wpAny_pure ⟨.str ⟨#[z.cps[i]]⟩,H,I.turned (λb o hb e=>(sb.2 b hb).trans e) f0 f1 f3 f4 f5,⟨_,rfl⟩,⟨rfl,_,hx,rfl⟩,st',λb hb=>(hf b hb).1⟩⟩
  rcases hty with rfl |rfl
  ·exact wpAny_pyNext_ascii_item st hx fin
  ·exact wpAny_pyNext_wide_item st hx fin
 done:=by
  intro X hP hw hK hc i pins s σ H E I hf st hg
  subst hP hw hK
  obtain⟨f0,f1,f2,f3,f4,f5⟩:=hf it (by simp)
  have hx:z.cps[i]? = none:=by
   have:z.cps.size<=i:=hg
   simp[this]
  rcases hty with rfl |rfl
  ·exact wpAny_pyNext_ascii_end (I.ok.hd hc) st hx λh' eb=>⟨rfl,I.turned (t':=s.toks) (λb o hb e=>eb b o hb e) f0 f1 f3 f4 f5⟩
  ·exact wpAny_pyNext_wide_end (I.ok.hd hc) st hx λh' eb=>⟨rfl,I.turned (t':=s.toks) (λb o hb e=>eb b o hb e) f0 f1 f3 f4 f5⟩
 self:=by
  intro A i s Q E st h
  rcases hty with rfl |rfl
  ·exact wpAny_pyIter_striter_ascii st h
  ·exact wpAny_pyIter_striter_wide st h
theorem pi_str {l:Expr}{tl:TE}{x:Str}{px:Pos}(hl:PE X l tl):PI X (.Name x px) l (iStr tl):=by
 intro pins s σ H R I h
 refine thn (hl pins s σ H _ I h) λv s1 ⟨y,H1,I1,r1,q1⟩=>?_
 obtain⟨z,rfl,q⟩:=q1
 obtain⟨t,rfl⟩:=r1
 have fin:∀ty,(ty="str_ascii_iterator" ∨ ty="str_iterator")->PIE X pins σ (.Name x px) R (.ref s1.heap.objs.size) { s1 with heap:=s1.heap.push { cls := .type ty,data := .fields #[.str z t, .int 0 0] } }:=λty hty=>by
  refine⟨s1.heap.objs.size,[s1.heap.objs.size],_,_,H1,rfl,I1.kept (t':=s1.toks) λb o e=>Heap.get?_push_of_some _ e,turn_str z _ ty t hty,⟨_,Heap.get?_push_size _ rfl,rfl,rfl⟩,λb hb=>?_,q⟩
  have e:b=s1.heap.objs.size:=by simpa using hb
  subst e
  exact I1.fpOk (l7 _) (I1.hok.fresh (l7 _))
 cases ha:z.cps.all (· < 128)
 ·exact wpAny_pyIter_wide ha (fin _ (.inr rfl))
 ·exact wpAny_pyIter_ascii ha (fin _ (.inl rfl))
theorem gk:∀{bs:List Bool} {us:List Value} {i:Nat} {v:Value},Vals (bs.map V.bl) us->us[i]? = some v->∃b,bs[i]? = some b/\v = .bool b
 | [],_,_,_,r,e=>by
  rw[l65] at r
  cases r
  simp at e
 |b::bs,us,i,v,r,e=>by
  rw[l19] at r
  cases r with
  |cons r1 r2=>
   cases i with
   |zero=>
    simp at e
    subst e
    exact⟨b,rfl,r1⟩
   |succ i=>
    obtain⟨c,h1,h2⟩:=gk (i:=i) r2 (by simpa using e)
    exact⟨c,by simpa using h1,h2⟩
theorem oW (bs:List Bool):((List.range bs.length).all λi=>bs.getD i true)=bs.all id:=by
 rw[Bool.eq_iff_iff,l47,l47]
 constructor
 ·intro h b hb
  obtain⟨i,hi,rfl⟩:=List.getElem_of_mem hb
  have:=h i (l61.mpr hi)
  rw[l39,List.getElem?_eq_getElem hi] at this
  exact this
 ·intro h i hi
  have hi':=l61.mp hi
  rw[l39,List.getElem?_eq_getElem hi']
  exact h _ (l62 hi')
theorem mx (hc:X.calm=true):dW X (.builtin "all") (λxs H Q=>∃(a:Addr) (bs:List Bool),xs=[.ref a]/\SqL X.K H a (bs.map V.bl)/\Q (.bl (bs.all id)) H):=by
 intro pins s σ H xs us Q I r h
 obtain⟨a,bs,rfl,hq,q⟩:=h
 obtain⟨u,rfl,rx⟩:=ny r
 cases rx
 obtain⟨its,r',pl,hz⟩:=I.list hq
 have hlen:its.toArray.size=bs.length:=by
  have:=r'.length
  rw[l6] at this
  rw[l27,this]
 have lt:a < s.heap.objs.size:=by
  obtain⟨o,n,e,_⟩:=pl
  exact Heap.lt_size e
 refine wpAny_with_toks (n:=1) I.tk (call_all_walk ?_)
 refine wpAny_pyIter_list pl.isList ?_
 refine⟨s.heap.objs.size,_,_,_,_,_,λi=>bs.getD i true,rfl,Walks.list (A:=X.A.in1) (I.ok.hd hc) s.heap.objs.size a (l29 lt) its.toArray,⟨⟨_,Heap.get?_push_size _ rfl,rfl,rfl⟩,?_⟩,?_,λh' tk kp htk=>?_⟩
 ·obtain⟨o,n,e,c,_,d⟩:=pl
  exact⟨o,Heap.get?_push_of_some _ e,c,n,d⟩
 ·intro i v s' Q' E' hP hQ
  have hP':its[i]? = some v:=by simpa using hP
  obtain⟨b,hb,rfl⟩:=gk r' hP'
  have hQ':Q' (bs.getD i true) s':=hQ
  rw[l39,hb] at hQ'
  exact wpAny_truthy_bool hQ'
 ·rw[hlen,oW]
  refine⟨.bl _,H,I.kept (λb o e=>kp b o ?_ (Heap.get?_push_of_some _ e)) htk,rfl,q⟩
  simp only[l20]
  exact l29 (Heap.lt_size e)
end
mutual
inductive Den (K:PySem.W.Frag) (H:Hp):V->PyData->Prop where
 |non:Den K H .non .none
 |bl (b:Bool):Den K H (.bl b) (.bool b)
 |int (i:Int):Den K H (.int i) (.int i)
 |str (x:Str) (h:PyData.strOk x=true):Den K H (.str x) (.str x)
 |lst {a:Addr} {xs:List V} {ds:List PyData}:SqL K H a xs->DenAll K H xs ds->Den K H (.ref a) (.list ds)
 |tup {a:Addr} {xs:List V} {ds:List PyData}:SqT K H a xs->DenAll K H xs ds->Den K H (.ref a) (.tuple ds)
inductive DenAll (K:PySem.W.Frag) (H:Hp):List V->List PyData->Prop where
 |nil:DenAll K H [] []
 |cons {x:V} {xs:List V} {d:PyData} {ds:List PyData}:Den K H x d->DenAll K H xs ds->DenAll K H (x::xs) (d::ds)
end
section
variable {X:Cx}{pins:List (Addr×Obj)}{σ:St}{H:Hp}{s:Shared}
mutual
theorem Den.reads (I:Inv X pins σ H s):∀{x:V} {d:PyData} {u:Value},Den X.K H x d->RelV x u->∃as,Reads s.heap u d as
 |_,_,_, .non,r=>by cases r;exact⟨_, .none⟩
 |_,_,_, .bl b,r=>by cases r;exact⟨_, .bool b⟩
 |_,_,_, .int i,r=>by obtain⟨t,rfl⟩:=r;exact⟨_, .int i t⟩
 |_,_,_, .str x _,r=>by obtain⟨t,rfl⟩:=r;exact⟨_, .str x t⟩
 |_,_,_, .lst hq hd,r=>by
  cases r
  obtain⟨its,rv,⟨o,n,e,c,_,d⟩,_⟩:=I.list hq
  obtain⟨as,ra⟩:=DenAll.reads I hd rv
  exact⟨_, .list e c d (by simpa using ra)⟩
 |_,_,_, .tup hq hd,r=>by
  cases r
  obtain⟨its,rv,⟨o,e,c,n,d⟩,_⟩:=I.tuple hq
  obtain⟨as,ra⟩:=DenAll.reads I hd rv
  exact⟨_, .tuple e c d (by simpa using ra)⟩
theorem DenAll.reads (I:Inv X pins σ H s):∀{xs:List V} {ds:List PyData} {us:List Value},DenAll X.K H xs ds->Vals xs us->∃as,ReadsAll s.heap us ds as
 |_,_,_, .nil,r=>by cases r;exact⟨_, .nil⟩
 |_,_,_, .cons h hs,r=>by
  cases r with
  |cons r1 r2=>
   obtain⟨as,a⟩:=Den.reads I h r1
   obtain⟨bs,b⟩:=DenAll.reads I hs r2
   exact⟨_, .cons a b⟩
end
end
mutual
theorem iN:∀d:PyData,d.canLay0=true->PyData.eqv d d=true
 | .none,_=>rfl
 | .bool b,_=>by simp[PyData.eqv]
 | .int i,_=>by simp[PyData.eqv]
 | .str x,_=>by simp[PyData.eqv]
 | .list xs,h=>by simp only[PyData.eqv];exact dY xs (by simpa[PyData.canLay0] using h)
 | .tuple xs,h=>by simp only[PyData.eqv];exact dY xs (by simpa[PyData.canLay0] using h)
 | .dict _,h=>by simp[PyData.canLay0] at h
theorem dY:∀ds:List PyData,PyData.canLayAll0 ds=true->PyData.eqvAll ds ds=true
 | [],_=>rfl
 |d::ds,h=>by
  simp only[PyData.canLayAll0,Bool.and_eq_true] at h
  simp only[PyData.eqvAll,Bool.and_eq_true]
  exact⟨iN d h.1,dY ds h.2⟩
end
mutual
theorem Den.lay {K:PySem.W.Frag}{H:Hp}:∀{x:V} {d:PyData},Den K H x d->d.canLay0=true
 |_,_, .non=>rfl
 |_,_, .bl _=>rfl
 |_,_, .int _=>rfl
 |_,_, .str _ h=>h
 |_,_, .lst _ h=>by simp only[PyData.canLay0];exact h.lay
 |_,_, .tup _ h=>by simp only[PyData.canLay0];exact h.lay
theorem DenAll.lay {K:PySem.W.Frag}{H:Hp}:∀{xs:List V} {ds:List PyData},DenAll K H xs ds->PyData.canLayAll0 ds=true
 |_,_, .nil=>rfl
 |_,_, .cons h hs=>by simp only[PyData.canLayAll0,Bool.and_eq_true];exact⟨h.lay,hs.lay⟩
end
section
variable {X:Cx}
def rEqD (K:PySem.W.Frag)(k:Bool):R2:=λx y H Q=>∃d,Den K H x d/\Den K H y d/\d.depth<=6/\Q (.bl k) H
theorem oX (hu:X.A.units+64 < cLine):OpR X (compareOp .Eq) (rEqD X.K true):=by
 intro pins s σ H x y v u Q I rx ry h
 obtain⟨d,dx,dy,hd,q⟩:=h
 obtain⟨as,ra⟩:=dx.reads I rx
 obtain⟨bs,rb⟩:=dy.reads I ry
 have hs:SeqAt.shaped d=true:=by
  unfold SeqAt.shaped
  rw[dx.lay,Bool.true_and]
  exact decide_eq_true (l10 hd (by decide))
 refine eq_dataH ra rb hs hs hu ?_
 rw[iN d dx.lay]
 exact⟨.bl true,H,I,rfl,q⟩
theorem op_neD (hu:X.A.units+64 < cLine):OpR X (compareOp .NotEq) (rEqD X.K false):=by
 intro pins s σ H x y v u Q I rx ry h
 obtain⟨d,dx,dy,hd,q⟩:=h
 obtain⟨as,ra⟩:=dx.reads I rx
 obtain⟨bs,rb⟩:=dy.reads I ry
 have hs:SeqAt.shaped d=true:=by
  unfold SeqAt.shaped
  rw[dx.lay,Bool.true_and]
  exact decide_eq_true (l10 hd (by decide))
 refine ne_dataH ra rb hs hs hu ?_
 rw[iN d dx.lay]
 exact⟨.bl false,H,I,rfl,q⟩
end
theorem ac {H:Hp}{p:Addr}(h:H p=none)(o:HO):Same H (upd H p o):=λb u q=>by rw[af (aF q h)];exact q
theorem au {H H':Hp}{D:Addr}{o:HO}(hD:H D=none)(e:Same H H'):Same H (upd H' D o):=λb u q=>by
 rw[af (aF q hD)]
 exact e b u q
theorem oY {J:It}{xs:List V}{k:Nat}{fr:List Nat}{g:TG}{tt:TT}{te:TE}{σ:St}{H0:Hp}{Q:Addr->Hp->Prop}(p:V->Bool)(f:V->V)(hl:xs.length<=sizeLine)
  (hgo:∀i H,Same H0 H->i < xs.length->J.go i H)(hyl:∀i H x H',i < xs.length->Same H0 H->J.yld i H x H'->H'=H/\xs[i]? = some x)(hst:∀i H,Same H0 H->xs.length<=i->J.stop i H)
  (ht:∀x∈xs,∀H',Same H0 H'->∀(C:V->Hp->Prop)(N:Hp->Prop),(∀H4,Same H' H4->p x=true->C (f x) H4)->(∀H3,Same H' H3->p x=false->N H3) →
   g x (nfS k fr σ) H' λσ2 H2=>nfLe k fr σ σ2/\tt σ2 H2 λb H3=>if b=true then te σ2 H3 C else N H3)
  (hq:∀D H',H0 D=none->Same H0 H'->H' D=some (.lst ((xs.filter p).map f))->Q D H'):rLC k fr g tt te σ J H0 Q:=by
 intro D hD
 refine⟨λi m acc H=>m=xs.length - i/\i<=xs.length/\acc=((xs.take i).filter p).map f/\H D=some (.lst acc)/\Same H0 H,⟨xs.length,by simp,l14 _,by simp,aa,ac hD _⟩,?_⟩
 rintro i m acc H ⟨rfl,hi,rfl,hDa,sm⟩
 refine⟨hDa,?_⟩
 by_cases hlt:i < xs.length
 ·refine .inr ⟨hgo i H sm hlt,λx H' y=>?_⟩
  obtain⟨e,hxi⟩:=hyl i H x H' hlt sm y
  subst e
  have hmem:x∈xs:=l17 hxi
  have htk:=take_succ_filter p xs i x hxi
  refine ht x hmem H' sm _ _ (λH4 s4 hp=>?_) (λH3 s3 hp=>?_)
  ·refine⟨s4 _ _ hDa,?_,xs.length - (i+1),by omega,rfl,hlt,?_,aa,?_⟩
   ·rw[l6]
    have:=List.length_filter_le p (xs.take i)
    rw[l33] at this
    omega
   ·rw[htk,hp];simp
   ·exact au hD (sm.trans s4)
  ·refine⟨xs.length - (i+1),by omega,rfl,hlt,?_,s3 _ _ hDa,sm.trans s3⟩
   rw[htk,hp];simp
 ·have e:i=xs.length:=by omega
  subst e
  rw[l40] at hDa ⊢
  exact .inl ⟨hst _ H sm (l7 _),hq D H hD sm hDa⟩
theorem lc_list {K:PySem.W.Frag}{a:Addr}{xs:List V}{k:Nat}{fr:List Nat}{g:TG}{tt:TT}{te:TE}{σ:St}{H0:Hp}{Q:Addr->Hp->Prop}(p:V->Bool)(f:V->V)(hx:SqL K H0 a xs)(hl:xs.length<=sizeLine)
  (ht:∀x∈xs,∀H',Same H0 H'->∀(C:V->Hp->Prop)(N:Hp->Prop),(∀H4,Same H' H4->p x=true->C (f x) H4)->(∀H3,Same H' H3->p x=false->N H3) →
   g x (nfS k fr σ) H' λσ2 H2=>nfLe k fr σ σ2/\tt σ2 H2 λb H3=>if b=true then te σ2 H3 C else N H3)
  (hq:∀D H',H0 D=none->Same H0 H'->H' D=some (.lst ((xs.filter p).map f))->Q D H'):rLC k fr g tt te σ (Itl K a) H0 Q:=
 oY p f hl (λi H sm hi=>⟨xs,xs[i],sm.seq hx,by simp[hi]⟩) (λi H x H' _ sm y=>⟨y.1,by obtain⟨e,y⟩:=y;exact y xs (sm.seq hx)⟩) (λi H sm hi=>⟨xs,sm.seq hx,hi⟩) ht hq
theorem lc_str {z:Str}{k:Nat}{fr:List Nat}{g:TG}{tt:TT}{te:TE}{σ:St}{H0:Hp}{Q:Addr->Hp->Prop}(p:V->Bool)(f:V->V)(hl:z.length<=sizeLine)
  (ht:∀c∈z.cps.toList,∀H',Same H0 H'->∀(C:V->Hp->Prop)(N:Hp->Prop),(∀H4,Same H' H4->p (.str ⟨#[c]⟩)=true->C (f (.str ⟨#[c]⟩)) H4)->(∀H3,Same H' H3->p (.str ⟨#[c]⟩)=false->N H3) →
   g (.str ⟨#[c]⟩) (nfS k fr σ) H' λσ2 H2=>nfLe k fr σ σ2/\tt σ2 H2 λb H3=>if b=true then te σ2 H3 C else N H3)
  (hq:∀D H',H0 D=none->Same H0 H'->H' D=some (.lst (((z.cps.toList.map λc=>V.str ⟨#[c]⟩).filter p).map f))->Q D H'):rLC k fr g tt te σ (Its z) H0 Q:=by
 have hz:(z.cps.toList.map λc=>V.str ⟨#[c]⟩).length=z.length:=by rw[l6];simp[Str.length]
 refine oY p f (by rw[hz];exact hl) (λi H sm hi=>by rw[hz] at hi;exact hi) (λi H x H' hi sm y=>?_) (λi H sm hi=>by rw[hz] at hi;exact hi) (λx hx=>?_) hq
 ·obtain⟨e,c,h1,h2⟩:=y
  refine⟨e,?_⟩
  rw[List.getElem?_map,h2]
  have:z.cps.toList[i]? = some c:=by simpa using h1
  rw[this];rfl
 ·obtain⟨c,hc,rfl⟩:=l32.mp hx
  exact ht c hc
theorem lc_range {n:Nat}{k:Nat}{fr:List Nat}{g:TG}{tt:TT}{te:TE}{σ:St}{H0:Hp}{Q:Addr->Hp->Prop}(lo:Int)(p:V->Bool)(f:V->V)(hl:n<=sizeLine)
  (ht:∀i,i < n->∀H',Same H0 H'->∀(C:V->Hp->Prop)(N:Hp->Prop),(∀H4,Same H' H4->p (.int (lo+(i:Nat)))=true->C (f (.int (lo+(i:Nat)))) H4)->(∀H3,Same H' H3->p (.int (lo+(i:Nat)))=false->N H3) →
   g (.int (lo+(i:Nat))) (nfS k fr σ) H' λσ2 H2=>nfLe k fr σ σ2/\tt σ2 H2 λb H3=>if b=true then te σ2 H3 C else N H3)
  (hq:∀D H',H0 D=none->Same H0 H'->H' D=some (.lst ((((List.range n).map λ(i:Nat)=>V.int (lo+i)).filter p).map f))->Q D H'):rLC k fr g tt te σ (Itr lo n) H0 Q:=by
 have hz:((List.range n).map λ(i:Nat)=>V.int (lo+i)).length=n:=by rw[l6,l56]
 refine oY p f (by rw[hz];exact hl) (λi H sm hi=>by rw[hz] at hi;exact hi) (λi H x H' hi sm y=>?_) (λi H sm hi=>by rw[hz] at hi;exact hi) (λx hx=>?_) hq
 ·obtain⟨e,h2⟩:=y
  rw[hz] at hi
  refine⟨e,?_⟩
  rw[List.getElem?_map,List.getElem?_range hi,h2];rfl
 ·obtain⟨i,hi,rfl⟩:=l32.mp hx
  exact ht i (l61.mp hi)
def FreeOk (X:Cx)(scope:Scope)(N':List Str):Nat->List Nat->List Str->Prop
 |_,[],[]=>True
 |k,j::fr,x::xs=>X.N[j]? = some x/\N'[k]? = some x/\(X.env.kindOf x=some .cell ∨ X.env.kindOf x=some .free) ∧
   ((relabel scope X.env).names.lookup x=some .cell ∨ (relabel scope X.env).names.lookup x=some .free)/\FreeOk X scope N' (k+1) fr xs
 |_,_,_=>False
theorem FreeOk.get {X:Cx}{scope:Scope}{N':List Str}:∀{k:Nat} {fr:List Nat} {xs:List Str},FreeOk X scope N' k fr xs->∀(i j:Nat),fr[i]? = some j->∃x,X.N[j]? = some x/\N'[k+i]? = some x ∧
  (X.env.kindOf x=some .cell ∨ X.env.kindOf x=some .free)/\((relabel scope X.env).names.lookup x=some .cell ∨ (relabel scope X.env).names.lookup x=some .free)
 |_,[],[],_,i,j,e=>by simp at e
 |_,[],_::_,h,_,_,_=>h.elim
 |_,_::_,[],h,_,_,_=>h.elim
 |k,j0::fr,x::xs,h,i,j,e=>by
  obtain⟨h1,h2,h3,h4,h5⟩:=h
  cases i with
  |zero=>
   simp at e
   subst e
   exact⟨x,h1,h2,h3,h4⟩
  |succ i=>
   have:=h5.get i j (by simpa using e)
   have e2:k+1+i=k+(i+1):=by omega
   rw[e2] at this
   exact this
theorem bw {X:Cx}{scope:Scope}{cl:List (Str×Addr)}{own:List Str}{fr:List Nat}{xs N':List Str}(cells:CellsIn X.env cl)(free:FreeOk X scope N' own.length fr xs)
  (nd:N'.Nodup)(all:((relabel scope X.env).names.all λy=>y.2 == .local||y.2 == .globalImplicit||(cl.lookup y.1).isSome)=true:=by rfl)
  (kind:scope.kind = .function:=by rfl) (len:N'.length=own.length+fr.length:=by rfl):CompN X scope cl own fr N':=by
 refine⟨kind,cells,λx hx=>?_,nd,len,λi j e=>free.get i j e⟩
 have key:∀k,(relabel scope X.env).names.lookup x=some k->(k = .cell ∨ k = .free)->∃c,cl.lookup x=some c:=λk e hk=>by
  have hm:=PySem.mem_of_lookup e
  have:=l47.mp all _ hm
  rcases hk with rfl |rfl
  ·simp only[Bool.or_eq_true] at this
   rcases this with (z |z) |z
   ·exact absurd z (by decide)
   ·exact absurd z (by decide)
   ·exact l85.mp z
  ·simp only[Bool.or_eq_true] at this
   rcases this with (z |z) |z
   ·exact absurd z (by decide)
   ·exact absurd z (by decide)
   ·exact l85.mp z
 rcases hx with e |e
 ·exact key _ e (.inl rfl)
 ·exact key _ e (.inr rfl)
structure Def (P:Program)(w:World)(K:PySem.W.Frag)(mg:Str->Option Value)(base:Heap)(k:Nat)(x:Str)(ps:List Str)(sp:Sp):Prop where
 ex:∃f fd,FnOk P w K mg base CX0 k f fd ps sp/\mg x=some (.ref f)/\PySem.W.keepIn K (.ref f)=true/\Binds K fd ps []
section
variable {X:Cx}{k:Nat}{x:Str}{ps:List Str}{sp:Sp}{e:Expr}{es:List Expr}{te:TE}{t:TA}{p pos:Pos}
theorem pe_callD (D:Def X.prog X.w X.K X.mg X.base k x ps sp)(hr:Room k X.A)(ha:PA X (e::es) t)(hg:Gl X x:=by exact rfl) (hdb:(x==("__debug__":Str))=false:=by decide)
  (he:starEach (e::es) X.env=(false,eval e X.env)::starEach es X.env:=by rfl) (hpl:(backTo pos (starEach es X.env)).any (·.1)=false:=by rfl):
  PE X (.Call (.Name x p) (e::es) [] pos) (cG sp [] E0 t):=by
 obtain⟨f,fd,G,hm,hk,hb⟩:=D.ex
 exact pe_call G hr hg hm hk hb .nil pass0 ha hdb he hpl
def b7:Expr->Bool
 | .Starred .. => true
 |_=>false
theorem aW {e:Expr}{es:List Expr}{env:Env}(h:b7 e=false):starEach (e::es) env=(false,eval e env)::starEach es env:=by
 cases e <;> first |rfl |cases h
def aG:List Expr->Bool
 | []=>true
 |e::es => !b7 e&&aG es
theorem cH {pos:Pos}{env:Env}:∀{es:List Expr},aG es=true->(backTo pos (starEach es env)).any (·.1)=false
 | [],_=>rfl
 |e::es,h=>by
  unfold aG at h
  rw[Bool.and_eq_true,Bool.not_eq_true'] at h
  rw[aW h.1]
  exact(show (false||(backTo pos (starEach es env)).any (·.1))=false by rw[cH h.2];rfl)
theorem jN {pos:Pos}{env:Env}:∀{es:List Expr},aG es=true->(backTo pos (starEach es env)).all (λx => !x.1)=true
 | [],_=>rfl
 |e::es,h=>by
  unfold aG at h
  rw[Bool.and_eq_true,Bool.not_eq_true'] at h
  rw[aW h.1]
  exact(show (true&&(backTo pos (starEach es env)).all (λx => !x.1))=true by rw[jN h.2];rfl)
theorem pa (ha:PE X e te)(hr:PA X es t)(h:b7 e=false:=by rfl):PA X (e::es) (aE te t):=pa_cons ha hr (aW h)
theorem few {cpos:Pos}{env:Env}{es:List Expr}(h:aG es=true)(hl:decide (es.length+([]:List Keyword).length+(if ([]:List Keyword).isEmpty then 0 else 1) < 30)=true):
  ((backTo cpos (starEach es env)).all (λx => !x.1)&&(backToKw cpos (keywordEach [] env)).all (λx=>x.1.isSome)
   && decide (es.length+([]:List Keyword).length+(if ([]:List Keyword).isEmpty then 0 else 1) < 30))=true:=by
 rw[jN h,hl]
 rfl
theorem pm {o e:Expr}{es:List Expr}{to:TE}{t:TA}{name:Str}{apos cpos:Pos}{T id:String}{r:V->List V->Hp->VK->Prop}(pa:PlainAttrs T)(slot:Slot T name id)(hty:typeOf (.builtin id)=pure (.type "method_descriptor"))(hm:MtR X id r)(ho:PE X o to)(ha:PA X (e::es) t)
  (hbase:attributeBase o name X.env (eval o X.env)=eval o X.env)(hst:aG (e::es)=true:=by rfl) (hl:decide ((e::es).length+([]:List Keyword).length+(if ([]:List Keyword).isEmpty then 0 else 1) < 30)=true:=by rfl)
  (hline:(apos.endLine==cpos.line)=true:=by rfl):PE X (.Call (.Attribute o name apos) (e::es) [] cpos) (tBM X.K T r to t):=by
 have h2:aG es=true:=by
  unfold aG at hst
  rw[Bool.and_eq_true] at hst
  exact hst.2
 have h1:b7 e=false:=by
  unfold aG at hst
  rw[Bool.and_eq_true,Bool.not_eq_true'] at hst
  exact hst.1
 exact pe_bm pa slot hty hm ho ha hbase (few hst hl) hline (aW h1) (cH h2)
def c7:Expr->Bool
 | .Call (.Name x _) [] [] _=>x != Str.ofString "super"
 |_=>true
theorem base_of {o:Expr}{name:Str}{env:Env}{w:Sem Value}(h:c7 o=true):attributeBase o name env w=w:=by
 unfold attributeBase
 split
 ·rename_i id _ _
  have h:(id != Str.ofString "super")=true:=h
  rw[h]
  rfl
 ·rfl
theorem cD {k:Nat}{x:Str}{ps:List Str}{sp:Sp}(D:Def X.prog X.w X.K X.mg X.base k x ps sp)(hr:Room k X.A)(ha:PA X (e::es) t)(hg:Gl X x:=by exact rfl) (hdb:(x==("__debug__":Str))=false:=by decide)
  (hst:aG (e::es)=true:=by rfl):PE X (.Call (.Name x p) (e::es) [] pos) (cG sp [] E0 t):=by
 have h2:aG es=true:=by
  unfold aG at hst
  rw[Bool.and_eq_true] at hst
  exact hst.2
 have h1:b7 e=false:=by
  unfold aG at hst
  rw[Bool.and_eq_true,Bool.not_eq_true'] at hst
  exact hst.1
 exact pe_callD D hr ha hg hdb (aW h1) (cH h2)
theorem cB {id:String}{r:List V->Hp->VK->Prop}(hc:dW X (.builtin id) r)(hg:Gl X x)(hm:X.mg x=none)(hv:bootBuiltins x=some (.builtin id))(ha:PA X (e::es) t)(hn:x≠"__name__":=by decide) (hdb:(x==("__debug__":Str))=false:=by decide)
  (hst:aG (e::es)=true:=by rfl):PE X (.Call (.Name x p) (e::es) [] pos) (tCB r t):=by
 have h2:aG es=true:=by
  unfold aG at hst
  rw[Bool.and_eq_true] at hst
  exact hst.2
 have h1:b7 e=false:=by
  unfold aG at hst
  rw[Bool.and_eq_true,Bool.not_eq_true'] at hst
  exact hst.1
 exact pe_callB hc hg hm hv ha hn hdb (aW h1) (cH h2)
def rIsT (K:PySem.W.Frag):List V->Hp->VK->Prop:=λxs H Q=>∃x t T b,xs=[x, .ty T]/\TyOf K H x t/\PySem.W.kitOne K t (.type T)=some b/\Q (.bl b) H
theorem bC:dW X (.builtin "isinstance") (rIsT X.K):=by
 intro pins s σ H xs us Q I r h
 obtain⟨x,t,T,b,rfl,ty,e,q⟩:=h
 obtain⟨u,v,rfl,rx,rv⟩:=r.two
 cases rv
 exact wpAny_with_toks (n:=1) I.tk (jA I rx ty e λtk htk=>⟨.bl b,H,I.tok _ htk,rfl,q⟩)
theorem kit_same (K:PySem.W.Frag)(t:Value):PySem.W.kitOne K t t=some true:=by
 unfold PySem.W.kitOne
 rw[if_pos (beq_self_eq_true t)]
theorem pe_globS {x y:Str}{pos:Pos}(h:∃t,X.mg x=some (.str y t))(hg:Gl X x:=by exact rfl) (hd:(x==("__debug__":Str))=false:=by decide):PE X (.Name x pos) (tC (.str y)):=by
 obtain⟨t,e⟩:=h
 exact kP hg e ⟨t,rfl⟩ hd
theorem pe_globI {x:Str}{y:Int}{pos:Pos}(h:∃t,X.mg x=some (.int y t))(hg:Gl X x:=by exact rfl) (hd:(x==("__debug__":Str))=false:=by decide):PE X (.Name x pos) (tC (.int y)):=by
 obtain⟨t,e⟩:=h
 exact kP hg e ⟨t,rfl⟩ hd
end
structure XE (X:Cx)(e:Expr)(t:TE):Prop where
 h:PE X e t
structure XT (X:Cx)(e:Expr)(t:TT):Prop where
 h:PT X e t
structure XW (X:Cx)(e:Expr)(t:TT):Prop where
 h:PW X e t
structure XA (X:Cx)(e:List Expr)(t:TA):Prop where
 h:PA X e t
structure XS (X:Cx)(st:Stmt)(t:TS):Prop where
 h:PS X st t
structure XB (X:Cx)(st:List Stmt)(t:TS):Prop where
 h:PSs X st t
structure XG (X:Cx)(e:Expr)(t:TG):Prop where
 h:PG X e t
structure XGs (X:Cx)(e:List Expr)(t:TGs):Prop where
 h:PGs X e t
structure XI (X:Cx)(tg it:Expr)(t:TI):Prop where
 h:PI X tg it t
structure XO (X:Cx)(e:Option Expr)(t:TO):Prop where
 h:PO X e t
structure XQ (X:Cx)(ifs:List Expr)(t:TT):Prop where
 h:PTs X ifs t
theorem ao {X:Cx}{st:List Stmt}{t:TS}{D:Ends}{σ:St}{H:Hp}(h:XB X st t)(q:t D σ H):∃t,PSs X st t/\t D σ H:=⟨t,h.h,q⟩
section
variable {X:Cx}{a b c o e:Expr}{ta tb tc te to:TE}{tA tB':TT}{es:List Expr}{t:TA}{pos p p2 apos cpos:Pos}{x:Str}
theorem xb0:XB X [] a9:=⟨pss_nil⟩
theorem xb1 {st:Stmt}{u:TS}(h:XS X st u):XB X [st] u:=⟨pss_one h.h⟩
theorem xbc {st:Stmt}{sts:List Stmt}{u v:TS}(h:XS X st u)(r:XB X sts v):XB X (st::sts) (tSeq u v):=⟨pss_cons h.h r.h⟩
theorem xret (h:XE X e te):XS X (.Return (some e) pos) (tRet te):=⟨ps_ret h.h⟩
theorem xif {f g:List Stmt}{tf tg:TS}(h:XT X c tA)(h1:XB X f tf)(h2:XB X g tg):XS X (.If c f g pos) (tIfS tA tf tg):=⟨ps_if h.h h1.h h2.h⟩
theorem xnever {st:Stmt}:XS X st tNever:=⟨ps_never⟩
theorem b8 (h:XE X e te)(hs:swapsWith e none pos.line X.env=pure false:=by rfl):XS X (.Expr e pos) (tDrop te):=⟨ps_expr h.h hs⟩
theorem xset {i:Nat}{pos':Pos}(hN:X.N.Nodup)(hi:X.N[i]? = some x)(hx:Loc X.env.scope x)(he:XE X e te)(hs:swapsWith e (some (.Name x pos')) pos.line X.env=pure false:=by rfl) (hf:X.fn x=true ∨ X.env.scope.names.lookup x=some .local:=by first |exact .inl rfl |exact .inr rfl):
  XS X (.Assign [.Name x pos'] e pos) (tAsg te (av i)):=⟨ps_set hN hi hx he.h hs hf⟩
theorem xgn {i:Nat}(hN:X.N.Nodup)(hi:X.N[i]? = some x)(hx:Loc X.env.scope x)(hf:X.fn x=true ∨ X.env.scope.names.lookup x=some .local:=by first |exact .inl rfl |exact .inr rfl):XG X (.Name x pos) (av i):=⟨pg_name hN hi hx hf⟩
theorem xgs0:XGs X [] gNil:=⟨pgs_nil⟩
theorem xgsc {tg:TG}{tgs:TGs}(h1:XG X e tg)(h2:XGs X es tgs)(hs:(assignEach (e::es) X.env).map (·.2)=assign e X.env::(assignEach es X.env).map (·.2):=by rfl):XGs X (e::es) (gCons tg tgs):=⟨pgs_cons h1.h h2.h hs⟩
theorem xgt {k n:Nat}{tgs:TGs}(hc:X.calm=true)(h:XGs X es tgs)(hn:(assignEach es X.env).length=n:=by rfl) (hst:(assignEach es X.env).findIdx? (·.1)=none:=by rfl):XG X (.Tuple es k pos) (gTup X.K n tgs):=⟨pg_tup hc h.h hn hst⟩
theorem xasg {tg:Expr}{g:TG}(he:XE X e te)(hg:XG X tg g)(hs:swapsWithSole [tg] e pos.line X.env=pure false:=by rfl) (hw:swappedStores [tg] e X.env=pure none:=by rfl)
  (h1:(assignEach [tg] X.env).map (·.2)=[assign tg X.env]:=by rfl):XS X (.Assign [tg] e pos) (tAsg te g):=⟨ps_asg he.h hg.h hs hw h1⟩
theorem xfor {tg it:Expr}{body:List Stmt}{wi:TI}{g:TG}{tb:TS}(hp:PassesOwn (model X.prog X.w) X.A X.env X.xe)(hc:X.calm=true)(hi:XI X tg it wi)(hg:XG X tg g)(hb:XB X body tb)
  (hs:∀x,foldedSetIterable it X.env x=pure x:=by intro _;rfl):XS X (.For tg it body [] pos) (tFor wi g tb):=⟨ps_for hp hc hi.h hg.h hb.h hs⟩
theorem xgsub {i:Expr}{ti:TE}{t:TSet}(ho:XE X o to)(hi:XE X i ti)(hs:PSet X t)
  (ha : ∀ v, assign (.Subscript o i pos) X.env v = (do
   let ov ← holding [v] (eval o X.env)
   let iv ← holding [v,ov] (eval i X.env)
   standAt pos
   holding [v,ov,iv] (setItem ov iv v)
   release [v,ov,iv] []):=by intro _;rfl):XG X (.Subscript o i pos) (gSub to ti t):=⟨pg_sub ho.h hi.h hs ha⟩
theorem xir1 {tg:Expr}(hg:Gl X "range")(hm:X.mg "range"=none)(ha:XA X [a] t)(h:b7 a=false:=by rfl):XI X tg (.Call (.Name "range" p) [a] [] pos) (iRng1 t):=⟨oH hg hm ha.h (aW h)⟩
theorem xil {tg l:Expr}{tl:TE}(h:XE X l tl):XI X tg l (iList X.K tl):=⟨pi_list h.h⟩
theorem xis {l:Expr}{tl:TE}{px:Pos}(h:XE X l tl):XI X (.Name x px) l (iStr tl):=⟨pi_str h.h⟩
theorem aw {op:CmpOp}{r:R2}(ho:OpR X (compareOp op) r)(ha:XE X a ta)(hb:XE X b tb)(hm:behindInMarks op b=false):XT X (.Compare a [op] [b] pos) (bH (tOp r ta tb)):=⟨pt_cmpR ho ha.h hb.h hm⟩
theorem hY (h:XT X a tA):XT X (.UnaryOp .Not a pos) (tNot tA):=⟨pt_not h.h⟩
theorem bA (h:XE X e te)(he:∀whole,isTrue e X.env whole=(do let v ← whole;standAt e.pos;holding [v] (truthy v)):=by intro _;rfl):XT X e (tB te):=⟨pt_val h.h he⟩
theorem fv (h:XT X a tA):XW X (.BoolOp .And [a] pos) tA:=⟨pw_and1 h.h⟩
theorem xor1 (h:XT X a tA):XW X (.BoolOp .Or [a] pos) tA:=⟨pw_or1 h.h⟩
theorem xand {rest:List Expr}(h:XT X a tA)(h2:XW X (.BoolOp .And (b::rest) pos) tB'):XW X (.BoolOp .And (a::b::rest) pos) (tAnd tA tB'):=⟨pw_and h.h h2.h⟩
theorem xor {rest:List Expr}(h:XT X a tA)(h2:XW X (.BoolOp .Or (b::rest) pos) tB'):XW X (.BoolOp .Or (a::b::rest) pos) (tOr tA tB'):=⟨pw_or h.h h2.h⟩
theorem XW.xt (h:XW X e tA):XT X e tA:=⟨h.h.pt⟩
theorem xnon {j:Nat}:XE X (.Constant .none j pos) (tC .non):=⟨pe_non⟩
theorem xbl {k:Bool}{j:Nat}:XE X (.Constant (.bool k) j pos) (tC (.bl k)):=⟨pe_bl⟩
theorem xint {i:Int}{j:Nat}:XE X (.Constant (.int i) j pos) (tC (.int i)):=⟨pe_int⟩
theorem xstr {y:Str}{j:Nat}:XE X (.Constant (.str y) j pos) (tC (.str y)):=⟨pe_str⟩
theorem xv (i:Nat)(hN:X.N[i]? = some x:=by rfl) (hv:Vis X.env.scope x:=by first |exact Or.inl rfl |exact Or.inr (Or.inl rfl) |exact Or.inr (Or.inr rfl)) (hd:(x==("__debug__":Str))=false:=by decide)
  (hcd:(x==("__classdict__":Str))=false:=by decide):XE X (.Name x pos) (tVar i):=⟨pv i hN hv hd hcd⟩
theorem xgS {y:Str}(h:∃t,X.mg x=some (.str y t))(hg:Gl X x:=by exact rfl) (hd:(x==("__debug__":Str))=false:=by decide):XE X (.Name x pos) (tC (.str y)):=⟨pe_globS h hg hd⟩
theorem xgI {y:Int}(h:∃t,X.mg x=some (.int y t))(hg:Gl X x:=by exact rfl) (hd:(x==("__debug__":Str))=false:=by decide):XE X (.Name x pos) (tC (.int y)):=⟨pe_globI h hg hd⟩
theorem xty {T:String}(hm:X.mg x=none)(hv:bootBuiltins x=some (.type T))(hg:Gl X x:=by exact rfl) (hn:x≠"__name__":=by decide) (hd:(x==("__debug__":Str))=false:=by decide):XE X (.Name x pos) (tC (.ty T)):=⟨pe_bltn hg hm hv rfl hn hd⟩
theorem xop {op:Operator}{r:R2}(ho:OpR X (binaryOp op) r)(ha:XE X a ta)(hb:XE X b tb):XE X (.BinOp a op b pos) (tOp r ta tb):=⟨pe_op ho ha.h hb.h⟩
theorem xun {op:UnaryOp}{r:V->Hp->VK->Prop}(ho:UnR X (unaryOp op) r)(ha:XE X a ta):XE X (.UnaryOp op a pos) (tUn r ta):=⟨pe_un ho ha.h⟩
theorem xcmp {op:CmpOp}{r:R2}(ho:OpR X (compareOp op) r)(ha:XE X a ta)(hb:XE X b tb)(hm:behindInMarks op b=false):XE X (.Compare a [op] [b] pos) (tOp r ta tb):=⟨pe_cmpR ho ha.h hb.h hm⟩
theorem xone {op}(h:XE X a ta):XE X (.BoolOp op [a] pos) ta:=⟨pe_one h.h⟩
theorem gm {rest:List Expr}(h:XE X a ta)(h2:XE X (.BoolOp .And (b::rest) pos) tb):XE X (.BoolOp .And (a::b::rest) pos) (oG ta tb):=⟨pe_and h.h h2.h⟩
theorem xorV {rest:List Expr}(h:XE X a ta)(h2:XE X (.BoolOp .Or (b::rest) pos) tb):XE X (.BoolOp .Or (a::b::rest) pos) (tOrV ta tb):=⟨pe_or h.h h2.h⟩
theorem xifE (h:XT X c tA)(ha:XE X a ta)(hb:XE X b tb):XE X (.IfExp c a b pos) (tIf tA ta tb):=⟨pe_ifExp h.h ha.h hb.h⟩
theorem xo0:XO X none gg:=⟨po_none⟩
theorem xo1 (h:XE X e te):XO X (some e) (oR te):=⟨po_some h.h⟩
theorem xsl {r:V->Option Int->Option Int->Hp->VK->Prop}{lo hi:Option Expr}{tl th:TO}(hr:SlR X r)(he:XE X e te)(hl:XO X lo tl)(hu:XO X hi th):XE X (.Subscript e (.Slice lo hi none p2) pos) (tSl r te tl th):=⟨pe_slice hr he.h hl.h hu.h⟩
theorem xix {r:R2}(hr:IxR X r)(ha:XE X a ta)(hb:XE X b tb)(hs:oT b):XE X (.Subscript a b pos) (tOp r ta tb):=⟨pe_ix hr ha.h hb.h hs⟩
theorem xa0:XA X [] tNil:=⟨pa_nil⟩
theorem xac (ha:XE X e te)(hr:XA X es t)(h:b7 e=false:=by rfl):XA X (e::es) (aE te t):=⟨pa ha.h hr.h h⟩
theorem xlst (h:XA X es t):XE X (.List es pos) (tLst t):=⟨pe_lst h.h⟩
theorem xtup {k}(h:XA X es t):XE X (.Tuple es k pos) (tTup t):=⟨pe_tup h.h⟩
theorem xcD {k:Nat}{ps:List Str}{sp:Sp}(D:Def X.prog X.w X.K X.mg X.base k x ps sp)(hr:Room k X.A)(ha:XA X (e::es) t)(hg:Gl X x:=by exact rfl) (hdb:(x==("__debug__":Str))=false:=by decide) (hst:aG (e::es)=true:=by rfl):
  XE X (.Call (.Name x p) (e::es) [] pos) (cG sp [] E0 t):=⟨cD D hr ha.h hg hdb hst⟩
theorem xcd {j k:Nat}{ps:List Str}{sp:Sp}(D:Def X.prog X.w X.K X.mg X.base k x ps sp)(hr:Room j X.A)(ha:XA X (e::es) t)(hg:Gl X x:=by exact rfl) (hdb:(x==("__debug__":Str))=false:=by decide) (hst:aG (e::es)=true:=by rfl) (hk:k<=j:=by omega):
  XE X (.Call (.Name x p) (e::es) [] pos) (cG sp [] E0 t):=xcD D (hr.mono hk) ha hg hdb hst
theorem xcB {id:String}{r:List V->Hp->VK->Prop}(hc:dW X (.builtin id) r)(hm:X.mg x=none)(hv:bootBuiltins x=some (.builtin id))(ha:XA X (e::es) t)(hg:Gl X x:=by exact rfl) (hn:x≠"__name__":=by decide) (hdb:(x==("__debug__":Str))=false:=by decide)
  (hst:aG (e::es)=true:=by rfl):XE X (.Call (.Name x p) (e::es) [] pos) (tCB r t):=⟨cB hc hg hm hv ha.h hn hdb hst⟩
theorem xcTy {T:String}{r:List V->Hp->VK->Prop}(hc:dW X (.type T) r)(hm:X.mg x=none)(hv:bootBuiltins x=some (.type T))(ha:XA X (e::es) t)(hg:Gl X x:=by exact rfl) (hn:x≠"__name__":=by decide) (hdb:(x==("__debug__":Str))=false:=by decide)
  (hst:aG (e::es)=true:=by rfl):XE X (.Call (.Name x p) (e::es) [] pos) (tCB r t):=by
 have h1:b7 e=false:=by
  have:=hst
  unfold aG at this
  rw[Bool.and_eq_true,Bool.not_eq_true'] at this
  exact this.1
 have h2:aG es=true:=by
  have:=hst
  unfold aG at this
  rw[Bool.and_eq_true] at this
  exact this.2
 exact⟨oQ hc hg hm hv ha.h hn hdb (aW h1) (cH h2)⟩
theorem xm {name:Str}{T id:String}{r:V->List V->Hp->VK->Prop}(pa:PlainAttrs T)(slot:Slot T name id)(hty:typeOf (.builtin id)=pure (.type "method_descriptor"))(hm:MtR X id r)(ho:XE X o to)(ha:XA X (e::es) t)
  (hb:c7 o=true:=by rfl) (hst:aG (e::es)=true:=by rfl) (hl:decide ((e::es).length+([]:List Keyword).length+(if ([]:List Keyword).isEmpty then 0 else 1) < 30)=true:=by rfl)
  (hline:(apos.endLine==cpos.line)=true:=by rfl):XE X (.Call (.Attribute o name apos) (e::es) [] cpos) (tBM X.K T r to t):=⟨pm pa slot hty hm ho.h ha.h (base_of hb) hst hl hline⟩
theorem xm0 {name:Str}{T id:String}{r:V->List V->Hp->VK->Prop}(pa:PlainAttrs T)(slot:Slot T name id)(hty:typeOf (.builtin id)=pure (.type "method_descriptor"))(hm:MtR X id r)(ho:XE X o to)
  (hb:c7 o=true:=by rfl) (hline:(apos.endLine==cpos.line)=true:=by rfl):XE X (.Call (.Attribute o name apos) [] [] cpos) (tBM0 X.K T r to):=⟨pe_bm0 pa slot hty hm ho.h (base_of hb) hline⟩
theorem oZ {y z:Str}{jy jz:Nat}{py pz:Pos}(ho:XE X o to)(hyz:(y==z)=false)(hzl:z.length<=14)(hb:c7 o=true:=by rfl) (hline:(apos.endLine==cpos.line)=true:=by rfl):
  XE X (.Call (.Attribute o "replace" apos) [.Constant (.str y) jy py, .Constant (.str z) jz pz] [] cpos) (λσ H Q=>to σ H λx H1=>∃w,x = .str w/\w.length<=1000000/\Q (.str (Txt.replace w y z)) H1):=⟨nM ho.h hyz hzl (base_of hb) hline⟩
theorem xq0:XQ X [] tYes:=⟨pts_nil⟩
theorem xq1 (h:XT X c tA):XQ X [c] tA:=⟨pts_one h.h⟩
section
variable {scope:Scope}{cl:List (Str×Addr)}{own:List Str}{fr:List Nat}{N':List Str}{tg iter elt:Expr}{ifs:List Expr}{wi:TI}{g:TG}{tt:TT}
theorem xlc (hc:X.calm=true)(Z:CompN X scope cl own fr N')(hcell:∀y∈scope.names,y.2 ≠ .cell)(hnames:∀x∈scope.names,x.2 = .local->scope.names.lookup x.1=some .local)(hclos:closureFor scope X.env=pure cl)
  (hi:XI X tg iter wi)(hg:∀C fp s H,XG (be X scope cl C N' fp s H) tg g)(ht:∀C fp s H,XQ (be X scope cl C N' fp s H) ifs tt)(he:∀C fp s H,XE (be X scope cl C N' fp s H) elt te)
  (hs:∀x,foldedSetIterable iter X.env x=pure x:=by intro _;rfl):XE X (.ListComp elt [⟨tg,iter,ifs,0⟩] scope pos) (tLC wi own.length fr g tt te):=
 ⟨pe_lc hc Z hcell hnames hclos hi.h (λC fp s H=>(hg C fp s H).h) (λC fp s H=>(ht C fp s H).h) (λC fp s H=>(he C fp s H).h) hs⟩
theorem xslc {i:Nat}{pos' spos:Pos}(hN:X.N.Nodup)(hix:X.N[i]? = some x)(hx:X.env.scope.names.lookup x=some .local)(hc:X.calm=true)(Z:CompN X scope cl own fr N')(hcell:∀y∈scope.names,y.2 ≠ .cell)
  (hnames:∀x∈scope.names,x.2 = .local->scope.names.lookup x.1=some .local)(hclos:closureFor scope X.env=pure cl)
  (hi:XI X tg iter wi)(hg:∀C fp s H,XG (be X scope cl C N' fp s H) tg g)(ht:∀C fp s H,XQ (be X scope cl C N' fp s H) ifs tt)(he:∀C fp s H,XE (be X scope cl C N' fp s H) elt te)
  (hs:∀x,foldedSetIterable iter X.env x=pure x:=by intro _;rfl) (hsw:swapsWith (.ListComp elt [⟨tg,iter,ifs,0⟩] scope pos) (some (.Name x pos')) spos.line X.env=pure true:=by rfl):
  XS X (.Assign [.Name x pos'] (.ListComp elt [⟨tg,iter,ifs,0⟩] scope pos) spos) (tSetLC i wi own.length fr g tt te):=
 ⟨ps_setlc hN hix hx hc Z hcell hnames hclos hi.h (λC fp s H=>(hg C fp s H).h) (λC fp s H=>(ht C fp s H).h) (λC fp s H=>(he C fp s H).h) hs hsw⟩
end
end
section
variable {X:Cx}{pins:List (Addr×Obj)}{σ:St}{H:Hp}{s:Shared}{h':Heap}
theorem Inv.turned2 {t':Nat}{e it T:Addr}{o:HO}(I:Inv X pins σ H s)(k:∀b ob,b≠e->b≠it->s.heap.get? b=some ob->h'.get? b=some ob)(fe:FpOk X pins H e)(fi:FpOk X pins H it)(hT:s.heap.objs.size<=T)
  (new:ObjOk X.prog X.w (upd H T o) h' T o)(ht:0 < t'):Inv X pins σ (upd H T o) { s with heap:=h',toks:=t' }:=by
 have hn:H T=none:=I.hok.fresh hT
 have ne1:∀b u,H b=some u->b≠e:=λb u q z=>by rw[z,fe.1] at q;cases q
 have ne2:∀b u,H b=some u->b≠it:=λb u q z=>by rw[z,fi.1] at q;cases q
 have kk:∀b ob,b∉[e,it]->s.heap.get? b=some ob->h'.get? b=some ob:=λb ob hb q=>k b ob (λz=>hb (by simp[z])) (λz=>hb (by simp[z])) q
 refine I.step (g':=s.gens) (d':=s.drawn) (ch:=[e,it]) (λb hb=>?_) (λb ob _ _ hc q _=>kk b ob hc q) (λb ob _ _ hc q _=>⟨ob.slots,kk b ob hc q⟩) (λb ob _ q n=>?_)
  (λb ob hc q=>⟨ob,kk b ob hc q⟩) (λb xs q=>?_) (λb ob u q=>?_) (λb ps q=>⟨#[],?_⟩) (λm hm=>?_) (λb u q=>?_) I.bare
 ·rcases l9.mp hb with rfl |hb
  ·exact⟨fe.2.2.2.1,fe.2.1,fe.2.2.2.2.1,fe.2.2.2.2.2⟩
  ·have z:b=it:=by simpa using hb
   subst z
   exact⟨fi.2.2.2.1,fi.2.1,fi.2.2.2.2.1,fi.2.2.2.2.2⟩
 ·rw[af (l29 (l26 (Heap.lt_size q) hT))];exact n
 ·rw[af (aF q hn)];exact q
 ·rw[af (aF q hn)];exact q
 ·rw[af (aF q hn),q];simp
 ·obtain⟨ob,es,ep,ho,r⟩:=hm
  exact⟨ob,es,ep,k _ ob (Ne.symm fe.2.1) (Ne.symm fi.2.1) ho,r⟩
 ·by_cases hb:b=T
  ·subst hb;rw[aa] at q;cases q;exact new
  ·rw[af hb] at q
   refine(I.hok b u q).stay (λc v hc q2=>?_) (λc q2=>by rw[af (aF q2 hn)];exact q2) λc xs q2=>by rw[af (aF q2 hn)];exact q2
   rcases hc with z |z
   ·subst z;exact k _ v (ne1 _ u q) (ne2 _ u q) q2
   ·exact k c v (ne1 c _ z) (ne2 c _ z) q2
def Ite (K:PySem.W.Frag)(a:Addr):It:=
 ⟨λi H=>∃xs x,SqL K H a xs/\xs[i]? = some x,λi H x H'=>∃T y,(∀xs,SqL K H a xs->xs[i]? = some y)/\H T=none/\x = .ref T/\H'=upd H T (.tup [.int i,y]),λi H=>∃xs,SqL K H a xs/\xs.length<=i⟩
theorem o0 {P:Program}{w:World}{K:PySem.W.Frag}{elts:List Expr}{k:Nat}{pos:Pos}(a e it:Addr)(hne:e≠it):
  Turn P w K (.Tuple elts k pos) (Ite K a) [e,it] e (λi h=>(∃old,IsEnum h e it i old)/\h.IsListIter it a i) where
 mem:=by simp
 obj:=λi h st b hb=>by
  obtain⟨⟨old,h1⟩,o,h2,h3,h4⟩:=st
  rcases l9.mp hb with rfl |hb
  ·exact⟨_,h1,λv z=>by cases z⟩
  ·have z:b=it:=by simpa using hb
   subst z
   exact⟨o,h2,λv z=>by rw[h4] at z;cases z⟩
 keep:=λi h h' st kk=>by
  obtain⟨⟨old,h1⟩,o,h2,h3⟩:=st
  exact⟨⟨old,kk e (by simp) _ h1⟩,o,kk it (by simp) o h2,h3⟩
 item:=by
  intro X hP hw hK hc i pins s σ H E I hf st hg
  subst hP hw hK
  obtain⟨xs,x,hq,hx⟩:=hg
  obtain⟨its,rv,p,hz⟩:=I.list hq
  obtain⟨u,hu,ru⟩:=rv.get hx
  obtain⟨⟨old,h1⟩,h2⟩:=st
  have fe:=hf e (by simp)
  have fi:=hf it (by simp)
  have hL:=p.isList
  have hae:a≠e:=λz=>by
   obtain⟨o,q1,q2,_⟩:=hL
   rw[z,h1] at q1
   cases q1
   exact absurd (Value.type.inj q2) (by decide)
  have hai:a≠it:=λz=>by
   obtain⟨o,q1,q2,_⟩:=hL
   obtain⟨o',q3,q4,_⟩:=h2
   rw[z,q3] at q1
   cases q1
   rw[q4] at q2
   exact absurd (Value.type.inj q2) (by decide)
  refine wpAny_pyNext_enum_item h1 h2 hL (x:=u) (by simpa using hu) hne λh' g1 g2 g3 g4 g5=>⟨_,rfl,?_⟩
  have hle:e < s.heap.objs.size:=Heap.lt_size h1
  obtain⟨oi,hoi,_⟩:=id h2
  have hli:it < s.heap.objs.size:=Heap.lt_size hoi
  have hTe:s.heap.objs.size≠e:=l45 hle
  have hTi:s.heap.objs.size≠it:=l45 hli
  have hL':h'.IsList a its.toArray:=by
   obtain⟨o,q1,q2,q3⟩:=hL
   exact⟨o,g5 a o hae hai q1,q2,q3⟩
  refine(WalksT.enumerate (I.ok.hd hc) e it a hne hae hai its.toArray).go elts k pos i s.heap.objs.size _ _ _ ⟨⟨_,g1⟩,g2,hL',hTe,hTi⟩ λh2 st2 kp=>?_
  have hT:h2.get? s.heap.objs.size=some { cls := .type "tuple",data := .seq #[.int i s.toks,u] }:=kp _ _ (by simp[hTe,hTi]) g3
  refine⟨.ref s.heap.objs.size,upd H s.heap.objs.size (.tup [.int i,x]),?_,rfl,⟨s.heap.objs.size,x,λys hy=>by rw[I.list_inj hy hq];exact hx,I.hok.fresh (l7 _),rfl,rfl⟩,⟨?_,?_⟩,?_⟩
  ·refine I.turned2 (t':=s.toks+1) (λb ob n1 n2 q=>kp b ob (by simp[n1,n2]) (g5 b ob n1 n2 q)) fe fi (l7 _) ?_ (l36 _)
   refine⟨by show 2<=sizeLine;rw[sizeLine_eq];decide,[.int i s.toks,u], .cons ⟨_,rfl⟩ (.cons ru .nil),?_⟩
   exact⟨_,hT,rfl,0,rfl⟩
  ·obtain⟨old2,q⟩:=st2.1
   exact⟨old2,by simpa using q⟩
  ·exact st2.2.1
  ·intro b hb
   rcases l9.mp hb with rfl |hb
   ·rw[af (Ne.symm hTe)];exact fe.1
   ·have z:b=it:=by simpa using hb
    subst z
    rw[af (Ne.symm hTi)];exact fi.1
 done:=by
  intro X hP hw hK hc i pins s σ H E I hf st hg
  subst hP hw hK
  obtain⟨xs,hq,hx⟩:=hg
  obtain⟨its,rv,p,hz⟩:=I.list hq
  obtain⟨⟨old,h1⟩,h2⟩:=st
  obtain⟨f0,f1,f2,f3,f4,f5⟩:=hf it (by simp)
  have hl:=rv.length
  exact wpAny_pyNext_enum_end (I.ok.hd hc) h1 h2 p.isList (by simp;omega) λh' eb=>⟨rfl,I.turned (t':=s.toks) (λb o hb e=>eb b o hb e) f0 f1 f3 f4 f5⟩
 self:=λ_ _ _ _ _ st h=>by
  obtain⟨⟨old,h1⟩,_⟩:=st
  exact wpAny_pyIter_enum h1 h
def iEnum (K:PySem.W.Frag)(ta:TA):TI:=λσ H R=>ta σ H λvs H1=>∃a xs,vs=[.ref a]/\H1 a=some (.lst xs)/\R (Ite K a) H1
theorem pi_enum {l:Expr}{ta:TA}{p pos:Pos}{elts:List Expr}{k:Nat}{pos':Pos}(hg:Gl X "enumerate")(hm:X.mg "enumerate"=none)(ha:PA X [l] ta)(hs:starEach [l] X.env=[(false,eval l X.env)]:=by rfl):
  PI X (.Tuple elts k pos') (.Call (.Name "enumerate" p) [l] [] pos) (iEnum X.K ta):=by
 intro pins s σ H R I h
 refine Call_ (f6 I hg hm boot_enumerate (PyProof.Rows.callWith_type1 (thn (ha pos pins s σ H _ I h) λus s1 ⟨vs,H1,I1,r1,q1⟩=>?_) hs rfl))
 obtain⟨a,xs,e,hq,q⟩:=q1
 subst e
 obtain⟨u,rfl,ru⟩:=r1.one
 cases ru
 obtain⟨z,its,n,r,hl,e⟩:=I1.lstM hq
 refine call_enumerate_1 e λh' g1 g2 g3 g4=>?_
 have hne:s1.heap.objs.size+1≠s1.heap.objs.size:=by omega
 refine wpAny_pyIter_enum g1 ?_
 refine⟨s1.heap.objs.size+1,[s1.heap.objs.size+1,s1.heap.objs.size],_,_,H1,rfl,I1.kept (t':=s1.toks) g4,o0 a _ _ hne,⟨⟨_,g1⟩,g2⟩,λb hb=>?_,q⟩
 have hb':s1.heap.objs.size<=b:=by
  rcases l9.mp hb with rfl |hb
  ·omega
  ·have z:b=s1.heap.objs.size:=by simpa using hb
   exact Nat.le_of_eq z.symm
 exact I1.fpOk hb' (I1.hok.fresh hb')
end
inductive Flt (H:Hp):V->Value->Prop where
 |int (i:Int):Flt H (.int i) (.type "int")
 |str (x:Str):Flt H (.str x) (.type "str")
 |lst {a:Addr} {xs:List V}:H a=some (.lst xs)->Flt H (.ref a) (.type "list")
theorem gn:∀{Ts:List String} {us:List Value},Vals (Ts.map V.ty) us->us=Ts.map Value.type
 | [],_, .nil=>rfl
 |T::Ts,_, .cons r t=>by
  cases r
  rw[gn t];rfl
def rIsTs (K:PySem.W.Frag):List V->Hp->VK->Prop:=λxs H Q=>∃(x:V) (t:Value) (p:Addr) (Ts:List String) (b:Bool),xs=[x, .ref p]/\Flt H x t/\H p=some (.tup (Ts.map V.ty))/\PySem.W.kitAny K t (Ts.map Value.type)=some b/\Q (.bl b) H
theorem o6 {X:Cx}:dW X (.builtin "isinstance") (rIsTs X.K):=by
 intro pins s σ H xs us Q I r h
 obtain⟨x,t,p,Ts,b,rfl,ty,hp,e,q⟩:=h
 obtain⟨u,v,rfl,rx,rv⟩:=r.two
 cases rv
 obtain⟨hz,its,rt,o,h1,h2,n,h3⟩:=(show ObjOk X.prog X.w H s.heap p (.tup (Ts.map V.ty)) from I.hok p _ hp)
 obtain⟨oc,od,oda,osl⟩:=o
 cases h2
 have h3:oda = .seq its.toArray n:=h3
 subst h3
 rw[gn rt] at h1
 cases ty with
 |int i=>
  obtain⟨t,z⟩:=(show ∃t,u=Value.int i t from rx)
  cases z
  exact wpAny_with_toks (n:=1) I.tk (PySem.W.kia_tup PySem.W.kitx_int I.kIn True.intro h1 e (λz=>nomatch z) λtk htk=>⟨.bl b,H,I.tok _ htk,rfl,q⟩)
 |str y=>
  obtain⟨t,z⟩:=(show ∃t,u=Value.str y t from rx)
  cases z
  exact wpAny_with_toks (n:=1) I.tk (PySem.W.kia_tup PySem.W.kitx_str I.kIn True.intro h1 e (λz=>nomatch z) λtk htk=>⟨.bl b,H,I.tok _ htk,rfl,q⟩)
 | @lst a xs ea=>
  cases (show u=Value.ref a from rx)
  obtain⟨_,_,n,_,h4⟩:=(show ObjOk X.prog X.w H s.heap a (.lst xs) from I.hok a _ ea)
  exact wpAny_with_toks (n:=1) I.tk (PySem.W.kia_tup PySem.W.kitx_list I.kIn ⟨_,h4,rfl⟩ h1 e (λz=>nomatch z) λtk htk=>⟨.bl b,H,I.tok _ htk,rfl,q⟩)
section
variable {X:Cx}{e l:Expr}{te:TE}{t:TA}{pos p p1 p2 p3:Pos}
theorem xie {elts:List Expr}{k:Nat}{pos':Pos}(hm:X.mg "enumerate"=none)(ha:XA X [l] t)(hg:Gl X "enumerate":=by exact rfl) (h:b7 l=false:=by rfl):XI X (.Tuple elts k pos') (.Call (.Name "enumerate" p) [l] [] pos) (iEnum X.K t):=⟨pi_enum hg hm ha.h (aW h)⟩
theorem xgtC {scope:Scope}{cl:List (Str×Addr)}{C:Addr}{N':List Str}{fp:List Addr}{s:Shared}{H:Hp}{es:List Expr}{k n:Nat}{tgs:TGs}(hc:X.calm=true)(h:XGs (be X scope cl C N' fp s H) es tgs)
  (hn:(assignEach es (be X scope cl C N' fp s H).env).length=n:=by rfl) (hst:(assignEach es (be X scope cl C N' fp s H).env).findIdx? (·.1)=none:=by rfl):XG (be X scope cl C N' fp s H) (.Tuple es k pos) (gTup X.K n tgs):=⟨pg_tup hc h.h hn hst⟩
section
variable {scope:Scope}{cl:List (Str×Addr)}{C:Addr}{N':List Str}{fp:List Addr}{s:Shared}{H:Hp}
theorem iO:IxR (be X scope cl C N' fp s H) (rIxL X.K):=aU (X:=be X scope cl C N' fp s H)
end
end
section
variable {X:Cx}{pins:List (Addr×Obj)}{σ:St}{H:Hp}{s:Shared}{h':Heap}
theorem Inv.turnedL {t':Nat}{ch:List Addr}{T:Addr}{o:HO}(I:Inv X pins σ H s)(k:∀b ob,b∉ch->s.heap.get? b=some ob->h'.get? b=some ob)(f:∀b∈ch,FpOk X pins H b)(hT:s.heap.objs.size<=T)
  (new:ObjOk X.prog X.w (upd H T o) h' T o)(ht:0 < t'):Inv X pins σ (upd H T o) { s with heap:=h',toks:=t' }:=by
 have hn:H T=none:=I.hok.fresh hT
 have ne:∀b u,H b=some u->b∉ch:=λb u q z=>by rw[(f b z).1] at q;cases q
 have nl:X.env.locals∉ch:=λz=>(f _ z).2.1 rfl
 refine I.step (g':=s.gens) (d':=s.drawn) (ch:=ch) (λb hb=>⟨(f b hb).2.2.2.1,(f b hb).2.1,(f b hb).2.2.2.2.1,(f b hb).2.2.2.2.2⟩) (λb ob _ _ hc q _=>k b ob hc q) (λb ob _ _ hc q _=>⟨ob.slots,k b ob hc q⟩) (λb ob _ q n=>?_)
  (λb ob hc q=>⟨ob,k b ob hc q⟩) (λb xs q=>?_) (λb ob u q=>?_) (λb ps q=>⟨#[],?_⟩) (λm hm=>?_) (λb u q=>?_) I.bare
 ·rw[af (l29 (l26 (Heap.lt_size q) hT))];exact n
 ·rw[af (aF q hn)];exact q
 ·rw[af (aF q hn)];exact q
 ·rw[af (aF q hn),q];simp
 ·obtain⟨ob,es,ep,ho,r⟩:=hm
  exact⟨ob,es,ep,k _ ob nl ho,r⟩
 ·by_cases hb:b=T
  ·subst hb;rw[aa] at q;cases q;exact new
  ·rw[af hb] at q
   refine(I.hok b u q).stay (λc v hc q2=>?_) (λc q2=>by rw[af (aF q2 hn)];exact q2) λc xs q2=>by rw[af (aF q2 hn)];exact q2
   rcases hc with z |z
   ·subst z;exact k _ v (ne _ u q) q2
   ·exact k c v (ne c _ z) q2
theorem Inv.turnedL0 {t':Nat}{ch:List Addr}(I:Inv X pins σ H s)(k:∀b ob,b∉ch->s.heap.get? b=some ob->h'.get? b=some ob)(f:∀b∈ch,FpOk X pins H b)(ht:0 < t'):Inv X pins σ H { s with heap:=h',toks:=t' }:=by
 have ne:∀b u,H b=some u->b∉ch:=λb u q z=>by rw[(f b z).1] at q;cases q
 have nl:X.env.locals∉ch:=λz=>(f _ z).2.1 rfl
 refine I.step (g':=s.gens) (d':=s.drawn) (ch:=ch) (λb hb=>⟨(f b hb).2.2.2.1,(f b hb).2.1,(f b hb).2.2.2.2.1,(f b hb).2.2.2.2.2⟩) (λb ob _ _ hc q _=>k b ob hc q) (λb ob _ _ hc q _=>⟨ob.slots,k b ob hc q⟩) (λ_ _ _ _ n=>n)
  (λb ob hc q=>⟨ob,k b ob hc q⟩) (λ_ _ q=>q) (λ_ _ _ q=>q) (λb ps q=>⟨#[],by rw[q];simp⟩) (λm hm=>?_) (λb u q=>?_) I.bare
 ·obtain⟨ob,es,ep,ho,r⟩:=hm
  exact⟨ob,es,ep,k _ ob nl ho,r⟩
 ·refine(I.hok b u q).stay (λc v hc q2=>?_) (λc q2=>q2) λc xs q2=>q2
  rcases hc with z |z
  ·subst z;exact k _ v (ne _ u q) q2
  ·exact k c v (ne c _ z) q2
def Itz (K:PySem.W.Frag)(a b:Addr):It:=
 ⟨λi H=>∃xs ys x y,SqL K H a xs/\SqL K H b ys/\xs[i]? = some x/\ys[i]? = some y,λi H x H'=>∃T u v,(∀xs,SqL K H a xs->xs[i]? = some u)/\(∀ys,SqL K H b ys->ys[i]? = some v)/\H T=none/\x = .ref T/\H'=upd H T (.tup [u,v]),
  λi H=>∃xs ys,SqL K H a xs/\SqL K H b ys/\(xs.length<=i ∨ ys.length<=i)⟩
theorem bX {h:Heap}{a b:Addr}{its:Array Value}{o:Obj}{T:String}(hL:h.IsList a its)(e:h.get? b=some o)(c:o.cls = .type T)(hT:"list"≠T):a≠b:=λz=>by
 obtain⟨o',q1,q2,_⟩:=hL
 rw[z,e] at q1
 cases q1
 rw[c] at q2
 exact hT (Value.type.inj q2).symm
theorem my {P:Program}{w:World}{K:PySem.W.Frag}{elts:List Expr}{k:Nat}{pos:Pos}(a b z TI TO i1 i2:Addr)
  (n1:TI≠z)(n2:TO≠z)(n3:i1≠z)(n4:i2≠z)(n5:TI≠TO)(n6:TI≠i1)(n7:TI≠i2)(n8:TO≠i1)(n9:TO≠i2)(n0:i1≠i2):
  Turn P w K (.Tuple elts k pos) (Itz K a b) [z,TI,TO,i1,i2] z (λi h=>IsZip h z TI TO .none/\IsPair h TI (.ref i1) (.ref i2)/\(∃u v,IsPair h TO u v)/\h.IsListIter i1 a i/\h.IsListIter i2 b i) where
 mem:=by simp
 obj:=λi h st c hc=>by
  obtain⟨h1,h2,⟨u,v,h3⟩,⟨o4,h4,h4c,h4d⟩,⟨o5,h5,h5c,h5d⟩⟩:=st
  rcases l9.mp hc with rfl |hc
  ·exact⟨_,h1,λv z=>by cases z⟩
  rcases l9.mp hc with rfl |hc
  ·exact⟨_,h2,λv z=>by cases z⟩
  rcases l9.mp hc with rfl |hc
  ·exact⟨_,h3,λv z=>by cases z⟩
  rcases l9.mp hc with rfl |hc
  ·exact⟨o4,h4,λv z=>by rw[h4d] at z;cases z⟩
  ·have e:c=i2:=by simpa using hc
   subst e
   exact⟨o5,h5,λv z=>by rw[h5d] at z;cases z⟩
 keep:=λi h h' st kk=>by
  obtain⟨h1,h2,⟨u,v,h3⟩,⟨o4,h4,h4r⟩,⟨o5,h5,h5r⟩⟩:=st
  exact⟨kk z (by simp) _ h1,kk TI (by simp) _ h2,⟨u,v,kk TO (by simp) _ h3⟩,⟨o4,kk i1 (by simp) _ h4,h4r⟩,⟨o5,kk i2 (by simp) _ h5,h5r⟩⟩
 item:=by
  intro X hP hw hK hc i pins s σ H E I hf st hg
  subst hP hw hK
  obtain⟨xs,ys,x,y,hqx,hqy,hx,hy⟩:=hg
  obtain⟨its,rv,p,hz⟩:=I.list hqx
  obtain⟨its2,rv2,p2,hz2⟩:=I.list hqy
  obtain⟨u,hu,ru⟩:=rv.get hx
  obtain⟨v,hv,rw'⟩:=rv2.get hy
  obtain⟨h1,h2,⟨u0,v0,h3⟩,h4,h5⟩:=st
  obtain⟨o4,g4,c4,_⟩:=id h4
  obtain⟨o5,g5,c5,_⟩:=id h5
  have hL:=p.isList
  have hL2:=p2.isList
  have az:=bX hL h1 rfl (by decide)
  have aTO:=bX hL h3 rfl (by decide)
  have ai1:=bX hL g4 c4 (by decide)
  have ai2:=bX hL g5 c5 (by decide)
  have bz:=bX hL2 h1 rfl (by decide)
  have bTO:=bX hL2 h3 rfl (by decide)
  have bi1:=bX hL2 g4 c4 (by decide)
  have bi2:=bX hL2 g5 c5 (by decide)
  have ap:ZipApart z TI TO i1 i2 a b:=⟨n1,n2,n3,n4,n5,n6,n7,n8,n9,n0,az,aTO,ai1,ai2,bz,bTO,bi1,bi2⟩
  refine wpAny_pyNext_zip_item ap h1 h2 h3 h4 h5 hL hL2 (x:=u) (y:=v) (by simpa using hu) (by simpa using hv) λh' k1 k2 k3 k4 k5 k6 k7=>⟨_,rfl,?_⟩
  have hlz:z < s.heap.objs.size:=Heap.lt_size h1
  have hlTO:TO < s.heap.objs.size:=Heap.lt_size h3
  have hlTI:TI < s.heap.objs.size:=Heap.lt_size h2
  have hl1:i1 < s.heap.objs.size:=Heap.lt_size g4
  have hl2:i2 < s.heap.objs.size:=Heap.lt_size g5
  refine wpAny_letOwnedTupleGo_zip k1 λh2' q1 sb=>?_
  have keep:∀c o,c≠z->h'.get? c=some o->h2'.get? c=some o:=λc o hc e=>(sb.2 c hc).trans e
  refine⟨.ref s.heap.objs.size,upd H s.heap.objs.size (.tup [x,y]),?_,rfl,⟨s.heap.objs.size,x,y,λys' hy'=>by rw[I.list_inj hy' hqx];exact hx,λys' hy'=>by rw[I.list_inj hy' hqy];exact hy,I.hok.fresh (l7 _),rfl,rfl⟩,⟨q1,?_,⟨u,v,keep _ _ n2 k2⟩,?_,?_⟩,?_⟩
  ·refine I.turnedL (t':=s.toks) (ch:=[z,TI,TO,i1,i2]) (λc ob hc q=>?_) hf (l7 _) ?_ I.tk
   ·simp only[l9,l37,or_false,not_or] at hc
    exact keep _ _ hc.1 (k7 c ob hc.1 hc.2.2.1 hc.2.2.2.1 hc.2.2.2.2 q)
   ·refine⟨by show 2<=sizeLine;rw[sizeLine_eq];decide,[u,v], .cons ru (.cons rw' .nil),?_⟩
    exact⟨_,keep _ _ (l45 hlz) k5,rfl,0,rfl⟩
  ·exact keep _ _ n1 (k7 TI _ n1 n5 n6 n7 h2)
  ·obtain⟨o,e,r⟩:=k3
   exact⟨o,keep _ _ n3 e,r⟩
  ·obtain⟨o,e,r⟩:=k4
   exact⟨o,keep _ _ n4 e,r⟩
  ·intro c hc
   have hlt:c < s.heap.objs.size:=by
    rcases l9.mp hc with rfl |hc
    ·exact hlz
    rcases l9.mp hc with rfl |hc
    ·exact hlTI
    rcases l9.mp hc with rfl |hc
    ·exact hlTO
    rcases l9.mp hc with rfl |hc
    ·exact hl1
    ·have e:c=i2:=by simpa using hc
     subst e
     exact hl2
   rw[af (l29 hlt)]
   exact(hf c hc).1
 done:=by
  intro X hP hw hK hc i pins s σ H E I hf st hg
  subst hP hw hK
  obtain⟨xs,ys,hqx,hqy,hx⟩:=hg
  obtain⟨its,rv,p,hz⟩:=I.list hqx
  obtain⟨its2,rv2,p2,hz2⟩:=I.list hqy
  obtain⟨h1,h2,⟨u0,v0,h3⟩,h4,h5⟩:=st
  obtain⟨o4,g4,c4,_⟩:=id h4
  obtain⟨o5,g5,c5,_⟩:=id h5
  have hL:=p.isList
  have hL2:=p2.isList
  have ap:ZipApart z TI TO i1 i2 a b:=⟨n1,n2,n3,n4,n5,n6,n7,n8,n9,n0,bX hL h1 rfl (by decide),bX hL h3 rfl (by decide),bX hL g4 c4 (by decide),bX hL g5 c5 (by decide),bX hL2 h1 rfl (by decide),bX hL2 h3 rfl (by decide),bX hL2 g4 c4 (by decide),bX hL2 g5 c5 (by decide)⟩
  have e1:=rv.length
  have e2:=rv2.length
  refine wpAny_pyNext_zip_end (I.ok.hd hc) ap h1 h2 h3 h4 h5 hL hL2 ?_ λh' kp=>⟨rfl,I.turnedL0 (t':=s.toks) (ch:=[z,TI,TO,i1,i2]) (λc ob hc q=>?_) hf I.tk⟩
  ·rcases hx with hx |hx
   ·exact .inl (by simp;omega)
   ·exact .inr (by simp;omega)
  ·simp only[l9,l37,or_false,not_or] at hc
   exact kp c ob hc.1 hc.2.2.1 hc.2.2.2.1 hc.2.2.2.2 q
 self:=λ_ _ _ _ _ st h=>wpAny_pyIter_zip st.1 h
def iZip (K:PySem.W.Frag)(ta:TA):TI:=λσ H R=>ta σ H λvs H1=>∃a b,vs=[.ref a, .ref b]/\(∃xs,SqL K H1 a xs)/\(∃ys,SqL K H1 b ys)/\R (Itz K a b) H1
theorem pi_zip {l l2:Expr}{ta:TA}{p pos:Pos}{elts:List Expr}{k:Nat}{pos':Pos}(hg:Gl X "zip")(hm:X.mg "zip"=none)(ha:PA X [l,l2] ta)(hs:starEach [l,l2] X.env=(false,eval l X.env)::starEach [l2] X.env)(hs2:(backTo pos (starEach [l2] X.env)).any (·.1)=false):
  PI X (.Tuple elts k pos') (.Call (.Name "zip" p) [l,l2] [] pos) (iZip X.K ta):=by
 intro pins s σ H R I h
 refine Call_ (f6 I hg hm boot_zip (PyProof.Rows.callWith_type1 (thn (ha pos pins s σ H _ I h) λus s1 ⟨vs,H1,I1,r1,q1⟩=>?_) hs hs2))
 obtain⟨a,b,e,⟨xs,hqa⟩,⟨ys,hqb⟩,q⟩:=q1
 subst e
 obtain⟨u,v,rfl,ru,rv⟩:=r1.two
 cases ru
 cases rv
 obtain⟨its,_,pl,_⟩:=I1.list hqa
 obtain⟨its2,_,pl2,_⟩:=I1.list hqb
 refine call_zip_2 pl.isList pl2.isList λh' g1 g2 g3 g4 g5 g6 g7=>?_
 refine wpAny_pyIter_zip g1 ?_
 refine ⟨s1.heap.objs.size+4,[s1.heap.objs.size+4,s1.heap.objs.size+2,s1.heap.objs.size+3,s1.heap.objs.size,s1.heap.objs.size+1],_,_,H1,rfl,I1.kept (t':=s1.toks) g7,
  my a b _ (s1.heap.objs.size+2) (s1.heap.objs.size+3) s1.heap.objs.size (s1.heap.objs.size+1) (show (s1.heap.objs.size+2:Nat)≠s1.heap.objs.size+4 by omega) (show (s1.heap.objs.size+3:Nat)≠s1.heap.objs.size+4 by omega) (show (s1.heap.objs.size:Nat)≠s1.heap.objs.size+4 by omega) (show (s1.heap.objs.size+1:Nat)≠s1.heap.objs.size+4 by omega) (show (s1.heap.objs.size+2:Nat)≠s1.heap.objs.size+3 by omega) (show (s1.heap.objs.size+2:Nat)≠s1.heap.objs.size by omega) (show (s1.heap.objs.size+2:Nat)≠s1.heap.objs.size+1 by omega) (show (s1.heap.objs.size+3:Nat)≠s1.heap.objs.size by omega) (show (s1.heap.objs.size+3:Nat)≠s1.heap.objs.size+1 by omega) (show (s1.heap.objs.size:Nat)≠s1.heap.objs.size+1 by omega),⟨g1,g2,⟨_,_,g3⟩,g4,g5⟩,λc hc=>?_,q⟩
 have hb':s1.heap.objs.size<=c:=by
  rcases l9.mp hc with rfl |hc
  ·exact l63 _ _
  rcases l9.mp hc with rfl |hc
  ·exact l63 _ _
  rcases l9.mp hc with rfl |hc
  ·exact l63 _ _
  rcases l9.mp hc with rfl |hc
  ·exact l7 _
  ·rw[show c=s1.heap.objs.size+1 by simpa using hc]
   exact l63 _ _
 exact I1.fpOk hb' (I1.hok.fresh hb')
theorem xiz {l l2:Expr}{t:TA}{p pos:Pos}{elts:List Expr}{k:Nat}{pos':Pos}(hm:X.mg "zip"=none)(ha:XA X [l,l2] t)(hg:Gl X "zip":=by exact rfl) (h:b7 l=false:=by rfl) (h2:b7 l2=false:=by rfl):XI X (.Tuple elts k pos') (.Call (.Name "zip" p) [l,l2] [] pos) (iZip X.K t):=
 ⟨pi_zip hg hm ha.h (aW h) (by rw[aW h2];rfl)⟩
end
structure OwnX (K:PySem.W.Frag)(C:Addr):Prop where
 ex:∃(bmB:List Value) (newId initId B:String),PySem.W.excIn K C bmB newId=true/\ExcBaseFacts B newId initId bmB
end L2
namespace L2
open PySem PySem.Spec PySem.Calls PyProof.Rows PySem.W PySem.Builtin PySem.Builtin.Str PySem.Builtin.ObjectAttr PySem.Builtin.Getset_descriptor
section
variable {X:Cx}{x:Str}{pos p:Pos}
theorem xgC {C:Addr}(hm:X.mg x=some (.ref C))(hg:Gl X x:=by exact rfl) (hd:(x==("__debug__":Str))=false:=by decide):XE X (.Name x pos) (tC (.ref C)):=⟨kP hg hm rfl hd⟩
theorem op_mulS:OpR X (binaryOp .Mult) (λx y H Q=>∃z n,x = .str z/\y = .int n/\z.length<=1000/\0<=n/\n<=1000/\Q (.str (Txt.mul z n)) H):=by
 intro pins s σ H x y v u Q I rx ry h
 obtain⟨z,n,rfl,rfl,hz,h0,h1,q⟩:=h
 obtain⟨t,rfl⟩:=rx
 obtain⟨t',rfl⟩:=ry
 refine wpAny_with_toks (n:=1) I.tk (SB.mul ?_ λt' k htk=>⟨.str (Txt.mul z n),H,I.tok _ htk,⟨_,rfl⟩,q⟩)
 have hs:sizeLine=16777216:=sizeLine_eq
 have hm:(z.length:Int) * n<=1000 * 1000:=Int.mul_le_mul (by omega) h1 h0 (by omega)
 have hm2:z.length * n.toNat<=1000 * 1000:=Nat.mul_le_mul hz (by omega)
 refine⟨?_,λ_ _=>?_,λ_ _=>?_⟩
 ·have e1:decide (n < -(2 ^ 63:Int))=false:=decide_eq_false (by omega)
  have e2:decide (n ≥ 2 ^ 63)=false:=decide_eq_false (by omega)
  rw[e1,e2];rfl
 ·intro q
  rename_i a _
  have hp:0 < n:=by omega
  have h9:(z.length:Int)<=(2 ^ 63 - 1:Int) / n:=(l86 hp).mpr (by omega)
  omega
 ·unfold tooLong
  exact decide_eq_false (by omega)
end
end L2
namespace L2
open PySem PySem.Spec PyProof.Rows
end L2
namespace Lm
def aQ (c:Nat):List Nat->List (List Nat)
 | []=>[[]]
 |x::r=>if x=c then []::aQ c r else
  match aQ c r with
  |h::t=>(x::h)::t
  | []=>[[x]]
theorem jO (c:Nat):∀l:List Nat,aQ c l≠[]
 | []=>by simp[aQ]
 |x::r=>by
  unfold aQ
  split
  ·simp
  ·split <;> simp
theorem aY (c x:Nat)(r:List Nat)(h:x≠c):∃p t,aQ c r=p::t/\aQ c (x::r)=(x::p)::t:=by
 have e:aQ c (x::r)=match aQ c r with
   |h::t=>(x::h)::t
   | []=>[[x]]:=by
  rw[aQ,if_neg h]
 cases q:aQ c r with
 |nil=>exact absurd q (jO c r)
 |cons p t=>exact⟨p,t,rfl,by rw[e,q]⟩
theorem bL (c:Nat)(r:List Nat):aQ c (c::r)=[]::aQ c r:=by rw[aQ,if_pos rfl]
theorem gq (c:Nat):∀l:List Nat,c∉l->aQ c l=[l]
 | [],_=>rfl
 |x::r,h=>by
  have hx:x≠c:=λe=>h (by simp[e])
  have ih:=gq c r λz=>h (l15 _ z)
  obtain⟨p,t,e1,e2⟩:=aY c x r hx
  rw[ih] at e1
  cases e1
  exact e2
theorem ip (c:Nat):∀(a r:List Nat),c∉a->aQ c (a++c::r)=a::aQ c r
 | [],r,_=>by rw[l55,bL]
 |x::a,r,h=>by
  have hx:x≠c:=λe=>h (by simp[e])
  have ih:=ip c a r λz=>h (l15 _ z)
  obtain⟨p,t,e1,e2⟩:=aY c x (a++c::r) hx
  rw[ih] at e1
  cases e1
  exact e2
theorem iq (c:Nat):∀(l:List Nat),(aQ c l).length<=l.length+1
 | []=>by simp[aQ]
 |x::r=>by
  have ih:=iq c r
  by_cases hx:x=c
  ·subst hx
   rw[bL];simp only[l8];omega
  ·obtain⟨q,t,e1,e2⟩:=aY c x r hx
   rw[e2]
   rw[e1] at ih
   simp only[l8] at ih ⊢
   omega
def bx (g:List Nat):List (List Nat)->List Nat
 | []=>[]
 | [p]=>p
 |p::q::r=>p++g++bx g (q::r)
theorem fw (g p:List Nat)(r:List (List Nat))(h:r≠[]):bx g (p::r)=p++g++bx g r:=by
 cases r with
 |nil=>exact absurd rfl h
 |cons q r=>rfl
theorem ir (c:Nat):∀ps:List (List Nat),ps≠[]->(∀p∈ps,c∉p)->aQ c (bx [c] ps)=ps
 | [],h,_=>absurd rfl h
 | [p],_,hp=>gq c p (hp p (by simp))
 |p::q::r,_,hp=>by
  show aQ c (p++[c]++bx [c] (q::r))=_
  rw[l24,l87,ip c p _ (hp p (by simp)),ir c (q::r) (by simp) λz hz=>hp z (l15 _ hz)]
def bj (l:List Nat):List (List Nat):=(aQ 32 l).filter (λw=>w≠[])
def fx (l:List Nat):List Nat:=bx [32] (bj l)
end Lm
namespace Lm
open PySem PySem.Builtin PySem.Builtin.Str PySem.StrLaws
abbrev S (l:List Nat):Str:=⟨l.toArray⟩
theorem am (l:List Nat):(S l).length=l.length:=by simp[Str.length]
theorem ek (l:List Nat):(S l).cps.toList=l:=by simp
theorem S_of (x:Str):S x.cps.toList=x:=by cases x;simp
theorem hZ {a b:List Nat}(h:S a=S b):a=b:=by
 have:=congrArg (λx:Str=>x.cps.toList) h
 simpa using this
theorem bb (a b:List Nat):S a++S b=S (a++b):=by
 show Str.append (S a) (S b)=_
 simp[Str.append]
theorem join_S (g:List Nat):∀ps:List Str,(Str.join (S g) ps).cps.toList=bx g (ps.map λp=>p.cps.toList)
 | []=>rfl
 | [p]=>rfl
 |p::q::r=>by
  show ((p++S g++Str.join (S g) (q::r)):Str).cps.toList=_
  rw[Str.cps_append,Str.cps_append,Array.toList_append,Array.toList_append,join_S g (q::r)]
  rfl
theorem kW (c:Nat)(l:List Nat):Txt.split (S l) (S [c])=(aQ c l).map S:=by
 have h1:=join_split (S l) (S [c])
 have h2:=split_free (S l) c
 have h3:∀ps:List Str,ps=(ps.map λp=>p.cps.toList).map S:=λps=>by
  rw[l28]
  conv=>lhs;rw[<- List.map_id ps]
  refine l51 λp _=>?_
  exact(S_of p).symm
 have h4:bx [c] ((Txt.split (S l) (S [c])).map λp=>p.cps.toList)=l:=by
  have:=congrArg (λx:Str=>x.cps.toList) h1
  simp only[ek] at this
  rw[<- join_S]
  exact this
 have ne:(Txt.split (S l) (S [c])).map (λp=>p.cps.toList)≠[]:=by
  unfold Txt.split
  split
  ·simp
  ·split
   ·simp
   ·rw[partsBetween_eq]
    obtain⟨p,r,e⟩:=partsFrom_ne (S l) (S [c]).length 0 (occurrences (S l) (S [c]) 0 (S l).length ((S l).length+1))
    rw[e];simp
 have h5 := ir c _ ne (λp hp=>by
  obtain⟨q,hq,rfl⟩:=l32.mp hp
  exact h2 q hq)
 rw[h4] at h5
 rw[h5]
 exact h3 _
theorem kX (g:List Nat)(ps:List (List Nat)):glued (S g) (ps.map S)=S (bx g ps):=by
 have key:∀(ps:List (List Nat)) (acc:List Nat),(ps.map S).foldl (λacc p=>acc++(S g).cps++p.cps) acc.toArray=(acc++(ps.map λp=>g++p).flatten).toArray:=by
  intro ps
  induction ps with
  |nil=>intro acc;simp
  |cons p r ih=>
   intro acc
   rw[l19,l79]
   have e:acc.toArray++(S g).cps++(S p).cps=(acc++g++p).toArray:=by simp
   rw[e,ih]
   simp
 have gl:∀(p:List Nat) (r:List (List Nat)),bx g (p::r)=p++(r.map λp=>g++p).flatten:=by
  intro p r
  induction r generalizing p with
  |nil=>simp[bx]
  |cons q r ih=>rw[fw g p (q::r) (by simp),ih q];simp
 unfold glued
 cases ps with
 |nil=>rfl
 |cons p r=>
  rw[gl]
  show (⟨(List.drop 1 (S p::r.map S)).foldl _ (S p).cps⟩:Str)=_
  rw[List.drop_one,List.tail_cons,key]
theorem dZ (g:List Nat)(ps:List (List Nat)):Txt.join (S g) (ps.map S)=S (bx g ps):=kX g ps
def bM (p:Nat->Bool)(l:List Nat):List Nat:=(l.reverse.dropWhile p).reverse
theorem fK (l:List Nat)(p:Nat->Bool):l.take (l.length - (l.reverse.takeWhile p).length)=bM p l:=by
 unfold bM
 have h:l.reverse=l.reverse.takeWhile p++l.reverse.dropWhile p:=(l57).symm
 have h2:l=(l.reverse.dropWhile p).reverse++(l.reverse.takeWhile p).reverse:=by
  have:=congrArg List.reverse h
  rw[List.reverse_reverse,List.reverse_append] at this
  exact this
 conv=>lhs;arg 2;rw[h2]
 have e:l.length - (l.reverse.takeWhile p).length=(l.reverse.dropWhile p).reverse.length:=by
  have:=congrArg List.length h
  rw[l5,l81] at this
  rw[l81]
  omega
 rw[e,List.take_left]
theorem mz (l y:List Nat):Txt.rstripChars (S l) (S y)=S (bM y.contains l):=by
 have e:(S y).cps.contains=y.contains:=by funext c;simp
 unfold Txt.rstripChars Txt.stripBy
 rw[e]
 have h0:stripLo y.contains false (S l)=0:=rfl
 have h1:stripHi y.contains true (S l) 0=l.length - (l.reverse.takeWhile y.contains).length:=by
  simp[stripHi,Str.length]
 split
 ·rename_i h
  rw[stripSame,h0,h1] at h
  simp only[beq_self_eq_true,Bool.true_and,beq_iff_eq,am] at h
  rw[<- fK,h,l40]
 ·rw[stripped,h0,h1]
  unfold strSub
  rw[<- fK]
  simp
theorem fS (l y:List Nat):Txt.lstripChars (S l) (S y)=S (l.dropWhile y.contains):=by
 have e:(S y).cps.contains=y.contains:=by funext c;simp
 have hd:l.drop (l.takeWhile y.contains).length=l.dropWhile y.contains:=by
  conv=>lhs;arg 2;rw[<- l57 (p:=y.contains) (l:=l)]
  rw[List.drop_left]
 unfold Txt.lstripChars Txt.stripBy
 rw[e]
 have h0:stripLo y.contains true (S l)=(l.takeWhile y.contains).length:=by simp[stripLo]
 have h1:∀k,stripHi y.contains false (S l) k=l.length:=λk=>by simp[stripHi,Str.length]
 split
 ·rename_i h
  rw[stripSame,h0,h1] at h
  simp only[Bool.and_eq_true,beq_iff_eq] at h
  rw[<- hd,h.1,List.drop_zero]
 ·rw[stripped,h0,h1]
  unfold strSub
  rw[<- hd]
  simp only[List.extract_toArray,List.extract_eq_take_drop]
  rw[l41 (by rw[l25];exact l7 _)]
theorem kY (l y:List Nat)(i:Nat):subAt (S l) (S y) i=decide ((l.drop i).take y.length=y):=by
 unfold subAt
 rw[Bool.eq_iff_iff]
 simp only[beq_iff_eq,decide_eq_true_eq]
 rw[<- Array.toList_inj]
 simp[am]
theorem At_S (l y:List Nat)(i:Nat):At (S l) (S y) (S l).length i ↔ i+y.length<=l.length/\(l.drop i).take y.length=y:=by
 unfold At
 rw[kY,am,am]
 simp
theorem ez (l y:List Nat):Txt.startswith (S l) (S y)=y.isPrefixOf l:=by
 unfold Txt.startswith
 rw[kY,am,am,Bool.eq_iff_iff]
 simp only[l66,List.drop_zero,Bool.and_eq_true,decide_eq_true_eq,l67]
 constructor
 ·rintro⟨_,h⟩
  exact⟨l.drop y.length,by (conv=>lhs;arg 1;rw[<- h]);exact l58 _ _⟩
 ·rintro⟨t,rfl⟩
  simp
theorem lower_S (l:List Nat)(h:∀c∈l,c < 128):Txt.lower (S l)=S (l.map PyProof.Rows.lo1):=by
 rw[PyProof.Rows.lower_ascii (by simpa using h)]
 simp
def h7 (y:List Nat):List Nat->Option Nat
 | []=>if y=[] then some 0 else none
 |x::r=>if y.isPrefixOf (x::r) then some 0 else (h7 y r).map (· + 1)
theorem iP (l y:List Nat)(i:Nat):(i+y.length<=l.length/\(l.drop i).take y.length=y) ↔ i<=l.length/\y <+: l.drop i:=by
 constructor
 ·rintro⟨h1,h2⟩
  exact⟨by omega,List.prefix_iff_eq_take.mpr h2.symm⟩
 ·rintro⟨h1,h2⟩
  have:=List.prefix_iff_eq_take.mp h2
  have hl:=h2.length_le
  rw[l25] at hl
  exact⟨by omega,this.symm⟩
theorem iu (y:List Nat):∀l:List Nat,h7 y l=none ↔ ∀i,¬ (i<=l.length/\y <+: l.drop i)
 | []=>by
  unfold h7
  split
  ·rename_i h;subst h
   simp only[reduceCtorEq,false_iff]
   intro h
   exact h 0 ⟨l7 _,by simp⟩
  ·rename_i h
   simp only[true_iff]
   rintro i ⟨_,hp⟩
   simp at hp
   exact h hp
 |x::r=>by
  unfold h7
  split
  ·rename_i h
   simp only[reduceCtorEq,false_iff]
   intro q
   exact q 0 ⟨l14 _,by simpa using l67.mp h⟩
  ·rename_i h
   rw[Option.map_eq_none_iff,iu y r]
   constructor
   ·intro q i
    cases i with
    |zero=>
     rintro⟨_,hp⟩
     exact h (l67.mpr (by simpa using hp))
    |succ i=>
     rintro⟨h1,hp⟩
     exact q i ⟨by simpa using h1,by simpa using hp⟩
   ·rintro q i ⟨h1,hp⟩
    exact q (i+1) ⟨by simpa using h1,by simpa using hp⟩
theorem fy (y:List Nat):∀(l:List Nat) (i:Nat),h7 y l=some i ↔ (i<=l.length/\y <+: l.drop i)/\∀k,k < i->¬ (k<=l.length/\y <+: l.drop k)
 | [],i=>by
  unfold h7
  split
  ·rename_i h;subst h
   simp only[Option.some.injEq,l23,Nat.le_zero_eq,List.nil_prefix,and_true]
   constructor
   ·rintro rfl;exact⟨rfl,λk hk=>by omega⟩
   ·rintro⟨h,_⟩;exact h.symm
  ·rename_i h
   simp only[reduceCtorEq,false_iff]
   rintro⟨⟨_,hp⟩,_⟩
   simp at hp
   exact h hp
 |x::r,i=>by
  unfold h7
  split
  ·rename_i h
   have h0:=l67.mp h
   simp only[Option.some.injEq]
   constructor
   ·rintro rfl;exact⟨⟨l14 _,by simpa using h0⟩,λk hk=>by omega⟩
   ·rintro⟨_,hn⟩
    cases i with
    |zero=>rfl
    |succ i=>exact absurd ⟨l14 _,by simpa using h0⟩ (hn 0 (by omega))
  ·rename_i h
   have h0:¬ y <+: x::r:=λq=>h (l67.mpr q)
   rw[l52]
   constructor
   ·rintro⟨j,hj,rfl⟩
    obtain⟨⟨h1,h2⟩,h3⟩:=(fy y r j).mp hj
    refine⟨⟨by simpa using h1,by simpa using h2⟩,λk hk=>?_⟩
    cases k with
    |zero=>rintro⟨_,hp⟩;exact h0 (by simpa using hp)
    |succ k=>rintro⟨q1,q2⟩;exact h3 k (by omega) ⟨by simpa using q1,by simpa using q2⟩
   ·rintro⟨⟨h1,h2⟩,h3⟩
    cases i with
    |zero=>exact absurd (by simpa using h2) h0
    |succ i=>exact⟨i,(fy y r i).mpr ⟨⟨by simpa using h1,by simpa using h2⟩,λk hk q=>h3 (k+1) (by omega) ⟨by simpa using q.1,by simpa using q.2⟩⟩,rfl⟩
theorem find_S (l y:List Nat):Txt.find (S l) (S y)=match h7 y l with |some i=>(i:Int) |none => -1:=by
 rcases PyProof.Rows.find_whole (S l) (S y) with ⟨e,hn⟩ |⟨i,e,hi,hn⟩
 ·rw[e,(iu y l).mpr λi q=>hn i ((At_S l y i).mpr ((iP l y i).mpr q))]
 ·rw[e,(fy y l i).mpr ⟨(iP l y i).mp ((At_S l y i).mp hi),λk hk q=>hn k hk ((At_S l y k).mpr ((iP l y k).mpr q))⟩]
theorem fA (l:List Nat)(c:Nat):(!(occurrences (S l) (S [c]) 0 (S l).length 1).isEmpty)=l.contains c:=by
 rw[found_one,Bool.eq_iff_iff]
 simp
theorem iw (x y z:Str):Txt.replace x y z=glued z (partsBetween x (occurrences x y 0 x.length (x.length+1)) y.length):=by
 unfold Txt.replace
 split
 ·rename_i h
  rcases Bool.or_eq_true_iff.mp h with h |h
  ·rw[l64.mp h]
   have e:partsBetween x [] y.length=[x]:=by
    rw[partsBetween_eq];show [strSub x 0 x.length]=[x];rw[sub_whole]
   rw[e];rfl
  ·simp only[Bool.and_eq_true,beq_iff_eq] at h
   have e:z=y:=by
    obtain⟨a⟩:=y;obtain⟨b⟩:=z
    simp only[Str.length,Array.size_eq_zero_iff] at h;rw[h.1,h.2]
   rw[e,glued_between_self]
 ·rfl
theorem cuts_one (c:Nat)(l:List Nat):partsBetween (S l) (occurrences (S l) (S [c]) 0 (S l).length ((S l).length+1)) (S [c]).length=(aQ c l).map S:=by
 have h:=kW c l
 unfold Txt.split at h
 split at h
 ·rename_i hk
  have no:occurrences (S l) (S [c]) 0 (S l).length ((S l).length+1)=[]:=by
   have hc:c∉l:=by
    rw[Bool.or_eq_true,decide_eq_true_eq,decide_eq_true_eq] at hk
    rcases hk with hk |hk
    ·rw[am,am] at hk
     have:l=[]:=by cases l;rfl;simp at hk
     subst this;simp
    ·have:=kind_free (S l) c hk
     simpa using this
   cases q:occurrences (S l) (S [c]) 0 (S l).length ((S l).length+1) with
   |nil=>rfl
   |cons i r=>
    obtain⟨f,hG,_⟩:=occ_tight (S l) (S [c]) (l7 1)
    rw[q] at hG
    have:=(subAt_one (S l) c i).mp hG.2.1
    rw[ek] at this
    exact absurd (l17 this) hc
  rw[no,partsBetween_eq]
  show [strSub (S l) 0 (S l).length]=_
  rw[sub_whole]
  exact h
 ·split at h
  ·rename_i he
   rw[l64.mp he,partsBetween_eq]
   show [strSub (S l) 0 (S l).length]=_
   rw[sub_whole]
   exact h
  ·exact h
theorem kZ (c:Nat)(z l:List Nat):Txt.replace (S l) (S [c]) (S z)=S (bx z (aQ c l)):=by
 rw[iw,cuts_one,kX]
def ax:List Nat->List Nat
 | []=>[]
 | [x]=>[x]
 |x::y::r=>if x=92/\y=124 then ax (y::r) else x::ax (y::r)
theorem gs:∀(p:List Nat) (r:List Nat),(∀k,¬ [92,124] <+: p.drop k)->(∀t,r≠124::t)->ax (p++r)=p++ax r
 | [],r,_,_=>rfl
 | [x],r,h,hr=>by
  cases r with
  |nil=>rfl
  |cons y t=>
   show ax (x::y::t)=x::ax (y::t)
   rw[ax,if_neg]
   rintro⟨_,rfl⟩
   exact hr t rfl
 |x::y::p,r,h,hr=>by
  have ih:=gs (y::p) r (λk=>by simpa using h (k+1)) hr
  show ax (x::y::(p++r))=_
  rw[ax,if_neg]
  ·show x::ax ((y::p)++r)=_
   rw[ih];rfl
  ·rintro⟨rfl,rfl⟩
   exact h 0 ⟨p,rfl⟩
theorem jP (r:List Nat):ax (124::r)=124::ax r:=by
 cases r with
 |nil=>rfl
 |cons y t=>
  rw[ax,if_neg]
  rintro⟨h,_⟩
  cases h
theorem iy:∀ps:List (List Nat),(∀p∈ps,∀k,¬ [92,124] <+: p.drop k)->ax (bx [92,124] ps)=bx [124] ps
 | [],_=>rfl
 | [p],h=>by
  have:=gs p [] (h p (by simp)) (by simp)
  simpa[bx,ax] using this
 |p::q::r,h=>by
  have ih:=iy (q::r) λz hz=>h z (l15 _ hz)
  show ax (p++[92,124]++bx [92,124] (q::r))=p++[124]++bx [124] (q::r)
  rw[l24,gs p _ (h p (by simp)) (by intro t e;cases e)]
  show p++ax (92::124::bx [92,124] (q::r))=_
  rw[ax,if_pos ⟨rfl,rfl⟩,jP,ih]
  simp
theorem o7 (x:Str):∀(cuts:List Nat) (a f:Nat),ChainG x (S [92,124]) x.length a cuts f->(∀k,f<=k->¬ At x (S [92,124]) x.length k)->a<=x.length →
  ∀p∈partsFrom x 2 a cuts,∀k,¬ [92,124] <+: p.cps.toList.drop k:=by
 have part:∀(a b:Nat),b<=x.length->(∀k,a<=k->k < b->¬ At x (S [92,124]) x.length k)->∀k,¬ [92,124] <+: (strSub x a b).cps.toList.drop k:=by
  intro a b hb hn k hp
  rw[strSub_toList] at hp
  have hl:=hp.length_le
  rw[l25,l33,l25] at hl
  have hx:x.cps.toList.length=x.length:=by simp[Str.length]
  have hl':[92,124].length=2:=rfl
  rw[hl'] at hl
  refine hn (a+k) (by omega) (by omega) ?_
  have hx2:x=S x.cps.toList:=(S_of x).symm
  rw[hx2,At_S,iP]
  refine⟨by omega,?_⟩
  rw[List.drop_take] at hp
  have:=hp.trans (List.take_prefix _ _)
  rwa [List.drop_drop] at this
 intro cuts
 induction cuts with
 |nil=>
  intro a f h hn ha p hp
  have e:f=a:=h
  subst e
  rw[l20.mp hp]
  exact part f x.length (l7 _) λk h1 _=>hn k h1
 |cons d r ih=>
  intro a f h hn ha p hp
  rcases l9.mp hp with rfl |hp'
  ·exact part a d (by have:=h.2.1.1;omega) h.2.2.1
  ·refine ih (d+2) f h.2.2.2 hn ?_ p hp'
   have:=h.2.1.1
   have e:(S [92,124]).length=2:=rfl
   omega
theorem iQ (l:List Nat):Txt.replace (S l) (S [92,124]) (S [124])=S (ax l):=by
 obtain⟨f,hG,hn⟩:=occ_tight (S l) (S [92,124]) (by decide)
 have hp:=o7 (S l) _ 0 f hG hn (l14 _)
 have hg:=glued_between_self (S l) (S [92,124]) ((S l).length+1)
 rw[iw]
 rw[partsBetween_eq] at hg ⊢
 have e2:(S [92,124]).length=2:=rfl
 rw[e2] at hg ⊢
 generalize partsFrom (S l) 2 0 (occurrences (S l) (S [92,124]) 0 (S l).length ((S l).length+1))=ps at hp hg ⊢
 have eS:ps=(ps.map λp=>p.cps.toList).map S:=by
  rw[l28]
  conv=>lhs;rw[<- List.map_id ps]
  exact l51 λp _=>(S_of p).symm
 rw[eS,kX] at hg ⊢
 have hl:=hZ hg
 rw[<- hl,iy]
 intro p hp' k
 obtain⟨q,hq,rfl⟩:=l32.mp hp'
 exact hp q hq k
def bD (n:Nat)(d:Nat):Option Int->Nat
 |none=>d
 |some i=>(max 0 (min (if i < 0 then i+n else i) n)).toNat
def cutL (l:List Nat)(lo hi:Option Int):List Nat:=(l.drop (bD l.length 0 lo)).take (bD l.length l.length hi - bD l.length 0 lo)
theorem gu (l:List Nat):∀(n a:Nat),a+n<=l.length->((List.range n).map λ(k:Nat)=>a+k).filterMap (l[·]?)=(l.drop a).take n:=by
 intro n
 induction n with
 |zero=>intro a _;simp
 |succ n ih=>
  intro a h
  rw[List.range_succ,l16,List.filterMap_append,ih a (by omega),l42]
  have:a+n < l.length:=by omega
  simp[List.getElem?_drop,this]
theorem o8 (n:Nat)(d:Nat)(o:Option Int):(match o with |none=>(d:Int) |some i=>max 0 (min (if i < 0 then i+n else i) n))=(bD n d o:Int):=by
 cases o with
 |none=>rfl
 |some i=>exact(l38 (Int.le_max_left _ _)).symm
theorem o9 (n:Nat)(d:Nat)(o:Option Int)(h:d<=n):bD n d o<=n:=by
 cases o with
 |none=>exact h
 |some i=>exact Int.toNat_le.mpr (Int.max_le.mpr ⟨Int.natCast_nonneg n,Int.min_le_right _ _⟩)
theorem pb (a b:Nat):sliceRange a b 1=(List.range (b - a)).map λ(k:Nat)=>a+k:=by
 unfold sliceRange
 rw[if_pos (by decide:(1:Int) > 0),Int.add_sub_cancel,Int.ediv_one]
 have e:(if (a:Int) < b then (b:Int) - a else 0).toNat=b - a:=by
  split
  ·exact Int.toNat_sub b a
  ·rename_i h
   rw[Nat.sub_eq_zero_of_le (Int.ofNat_le.mp (Int.not_lt.mp h))]
   rfl
 dsimp only
 rw[e]
 refine congrArg (λf=>List.map f _) (funext λk=>?_)
 rw[Int.one_mul,<- Int.natCast_add]
 exact l34 _
theorem slice_ix (n:Nat)(lo hi:Option Int):strSliceIndices lo hi 1 n=(List.range (bD n n hi - bD n 0 lo)).map λ(k:Nat)=>bD n 0 lo+k:=by
 have e1:(1:Int) > 0:=by decide
 rw[<- pb,<- o8,<- o8]
 unfold strSliceIndices
 simp only[e1,if_true]
 rfl
theorem gv (l:List Nat)(lo hi:Option Int):Txt.slice (S l) lo hi=S (cutL l lo hi):=by
 obtain⟨a,b,ea,eb,ha,hb,e⟩:∃(a b:Nat),a=bD l.length 0 lo/\b=bD l.length l.length hi/\a<=l.length/\b<=l.length/\strSliceIndices lo hi 1 l.length=(List.range (b - a)).map λ(k:Nat)=>a+k:=
  ⟨_,_,rfl,rfl,o9 _ _ _ (l14 _),o9 _ _ _ (l7 _),slice_ix _ _ _⟩
 unfold Txt.slice cutL
 rw[am,e,<- ea,<- eb]
 simp only[l6,l56]
 split
 ·rename_i h
  simp only[beq_self_eq_true,Bool.true_and,beq_iff_eq] at h
  have h1:a=0:=by omega
  have h2:b=l.length:=by omega
  rw[h1,h2]
  simp
 ·rename_i h
  congr 1
  have q:=gu l (b - a) a (by omega)
  rw[<- q]
  congr 2
  funext i
  simp
def consH (x:Nat):List (List Nat)->List (List Nat)
 |h::t=>(x::h)::t
 | []=>[[x]]
def bc:Nat->List Nat->List (List Nat)
 |_,[]=>[[]]
 |prev,x::r=>if x=124/\prev≠92 then []::bc x r else consH x (bc x r)
def cK (l:List Nat):List (List Nat):=bc 0 l
theorem k0:∀(l:List Nat) (p:Nat),bc p l≠[]
 | [],_=>by simp[bc]
 |x::r,p=>by
  unfold bc
  split
  ·simp
  ·cases h:bc x r <;> simp[consH]
def b9 (l:List Nat)(i:Nat):Bool:=l[i]? == some 124&&(i==0||l[i - 1]? != some 92)
def cg:Nat->Nat->List Nat->List Nat
 |_,_,[]=>[]
 |prev,k,x::r=>if x=124/\prev≠92 then k::cg x (k+1) r else cg x (k+1) r
theorem isBar_at (pre r:List Nat)(x:Nat):b9 (pre++x::r) pre.length=decide (x=124/\pre.getLastD 0≠92):=by
 unfold b9
 have e1:(pre++x::r)[pre.length]? = some x:=by simp
 rw[e1]
 rcases l68 pre with rfl |⟨p,y,rfl⟩
 ·rw[Bool.eq_iff_iff];simp
 ·have e2:(p.concat y++x::r)[(p.concat y).length - 1]? = some y:=by
   rw[l82,l24]
   simp
  rw[e2,Bool.eq_iff_iff]
  simp
theorem gw:∀(suf pre:List Nat),((List.range' pre.length suf.length).filter (b9 (pre++suf)))=cg (pre.getLastD 0) pre.length suf
 | [],pre=>rfl
 |x::r,pre=>by
  have ih:=gw r (pre++[x])
  rw[l5,l24] at ih
  simp only[l8,l23,l66,l87] at ih
  rw[l8,List.range'_succ,List.filter_cons,isBar_at,cg]
  have e:(pre++[x]).getLastD 0=x:=by simp
  rw[e] at ih
  by_cases h:x=124/\pre.getLastD 0≠92
  ·rw[if_pos h]
   simp only[h,and_self,decide_true,if_true,ne_eq,not_false_eq_true]
   have e124:=h.1
   subst e124
   rw[ih]
  ·rw[if_neg h,if_neg (by simpa using h),ih]
theorem jQ (l:List Nat):(List.range l.length).filter (b9 l)=cg 0 0 l:=by
 have:=gw l []
 simpa[List.range_eq_range'] using this
def cz (l:List Nat):Nat->List Nat->List (List Nat)
 |_,[]=>[]
 |b,p::r=>(l.drop b).take (p - b)::cz l (p+1) r
theorem fD:∀(suf pre:List Nat) (b:Nat),b<=pre.length →
  ∃h t,bc (pre.getLastD 0) suf=h::t/\cz (pre++suf) b (cg (pre.getLastD 0) pre.length suf++[(pre++suf).length])=(pre.drop b++h)::t
 | [],pre,b,hb=>by
  refine⟨[],[],rfl,?_⟩
  show [((pre++[]).drop b).take ((pre++[]).length - b)]=_
  rw[l31,l31,l41 (by rw[l25];exact l7 _)]
 |x::r,pre,b,hb=>by
  have e:(pre++[x]).getLastD 0=x:=by simp
  have el:(pre++[x]).length=pre.length+1:=by simp
  have ea:(pre++[x])++r=pre++x::r:=by simp
  rw[bc,cg]
  by_cases h:x=124/\pre.getLastD 0≠92
  ·obtain⟨h1,t1,q1,q2⟩:=fD r (pre++[x]) (pre.length+1) (by rw[el];exact l7 _)
   rw[e] at q1 q2
   rw[el,ea] at q2
   rw[if_pos h,if_pos h]
   refine⟨[],bc x r,rfl,?_⟩
   rw[List.cons_append,cz,q2,q1]
   have d:(pre++[x]).drop (pre.length+1)=[]:=by rw[<- el];exact List.drop_length
   rw[d,l55,l31,List.drop_append_of_le_length hb,List.take_append_of_le_length (by rw[l25];exact l7 _),l41 (by rw[l25];exact l7 _)]
  ·obtain⟨h1,t1,q1,q2⟩:=fD r (pre++[x]) b (by rw[el];omega)
   rw[e] at q1 q2
   rw[el,ea] at q2
   rw[if_neg h,if_neg h,q1]
   refine⟨x::h1,t1,rfl,?_⟩
   rw[q2,List.drop_append_of_le_length hb]
   simp
theorem la (l:List Nat):cz l 0 ((List.range l.length).filter (b9 l)++[l.length])=cK l:=by
 obtain⟨h,t,q1,q2⟩:=fD l [] 0 (l7 _)
 rw[jQ]
 have q2':cz l 0 (cg 0 0 l++[l.length])=h::t:=by simpa using q2
 rw[q2']
 exact q1.symm
theorem iz:∀(c:List Nat) (x:Nat),ax (c++[x])=if x=124/\c.getLastD 0=92 then (ax c).dropLast++[124] else ax c++[x]
 | [],x=>by simp[ax]
 | [y],x=>by
  show (if y=92/\x=124 then ax [x] else y::ax [x])=_
  by_cases h:y=92/\x=124
  ·rw[if_pos h,if_pos (by simpa using ⟨h.2,h.1⟩)];simp[ax,h.2]
  ·rw[if_neg h,if_neg (by simpa using λa b=>h ⟨b,a⟩)];simp[ax]
 |y::z::c,x=>by
  have ih:=iz (z::c) x
  have e:(y::z::c).getLastD 0=(z::c).getLastD 0:=by simp
  rw[e]
  show ax (y::z::(c++[x]))=_
  rw[ax,ax]
  have ih':ax (z::(c++[x]))=if x=124/\(z::c).getLastD 0=92 then (ax (z::c)).dropLast++[124] else ax (z::c)++[x]:=ih
  have ne:ax (z::c)≠[]:=by
   cases c with
   |nil=>simp[ax]
   |cons w c=>
    rw[ax]
    split
    ·rename_i hh
     have:w=124:=hh.2
     subst this
     rw[jP];simp
    ·simp
  by_cases h1:y=92/\z=124
  ·rw[if_pos h1,if_pos h1,ih']
  ·rw[if_neg h1,if_neg h1,ih']
   by_cases h2:x=124/\(z::c).getLastD 0=92
   ·rw[if_pos h2,if_pos h2]
    rw[List.dropLast_cons_of_ne_nil ne]
    rfl
   ·rw[if_neg h2,if_neg h2];rfl
theorem iR (c:List Nat):ax c=[] ↔ c=[]:=by
 constructor
 ·intro h
  rcases l68 c with rfl |⟨p,y,rfl⟩
  ·rfl
  ·rw[l82,iz] at h
   split at h <;> simp at h
 ·rintro rfl;rfl
theorem gx:∀c:List Nat,aQ 32 (ax c)=(aQ 32 c).map ax
 | []=>rfl
 | [x]=>by
  by_cases h:x=32
  ·subst h;simp[ax,aQ]
  ·simp[ax,aQ,h]
 |x::y::r=>by
  have ih:=gx (y::r)
  rw[ax]
  by_cases h:x=92/\y=124
  ·rw[if_pos h,ih]
   obtain⟨rfl,rfl⟩:=h
   obtain⟨p,t,e1,e2⟩:=aY 32 92 (124::r) (by decide)
   obtain⟨p',t',e1',e2'⟩:=aY 32 124 r (by decide)
   rw[e2,e1]
   rw[e2'] at e1
   cases e1
   simp[ax]
  ·rw[if_neg h]
   by_cases hx:x=32
   ·subst hx
    rw[bL,bL,ih]
    simp[ax]
   ·obtain⟨p,t,e1,e2⟩:=aY 32 x (y::r) hx
    obtain⟨p',t',e1',e2'⟩:=aY 32 x (ax (y::r)) hx
    rw[e2',e2]
    rw[ih,e1] at e1'
    simp only[l19,List.cons.injEq] at e1' ⊢
    obtain⟨a,b⟩:=e1'
    refine⟨?_,b.symm⟩
    rw[<- a]
    by_cases hy:y=32
    ·subst hy
     rw[bL] at e1
     cases e1
     simp[ax]
    ·obtain⟨p2,t2,f1,f2⟩:=aY 32 y r hy
     rw[f2] at e1
     cases e1
     rw[ax,if_neg h]
theorem d7:∀(p r:List Nat),ax (p++32::r)=ax p++32::ax r
 | [],r=>by
  show ax (32::r)=32::ax r
  cases r with
  |nil=>rfl
  |cons y t=>rw[ax,if_neg (λh=>by cases h.1)]
 | [x],r=>by
  have q:ax (x::32::r)=x::ax (32::r):=by
   rw[ax,if_neg (λh=>by cases h.2)]
  show ax (x::32::r)=_
  rw[q]
  have:=d7 [] r
  simp only[l55] at this
  rw[this]
  simp[ax]
 |x::y::p,r=>by
  have ih:=d7 (y::p) r
  show ax (x::y::(p++32::r))=_
  rw[ax,ax]
  have ih':ax (y::(p++32::r))=ax (y::p)++32::ax r:=ih
  by_cases h:x=92/\y=124
  ·rw[if_pos h,if_pos h,ih']
  ·rw[if_neg h,if_neg h,ih'];rfl
theorem iA:∀ws:List (List Nat),bx [32] (ws.map ax)=ax (bx [32] ws)
 | []=>rfl
 | [p]=>rfl
 |p::q::r=>by
  have ih:=iA (q::r)
  show ax p++[32]++bx [32] ((q::r).map ax)=ax (p++[32]++bx [32] (q::r))
  rw[ih,l24 p,l87,d7]
  simp
theorem lb (c:List Nat):bj (ax c)=(bj c).map ax:=by
 unfold bj
 rw[gx,List.filter_map]
 congr 1
 apply List.filter_congr
 intro w _
 have:=iR w
 by_cases h:w=[]
 ·subst h;simp[ax]
 ·have h2:ax w≠[]:=λq=>h (this.mp q)
  simp[h,h2]
theorem nN (c:List Nat):fx (ax c)=ax (fx c):=by
 unfold fx
 rw[lb,iA]
def jR (l:List Nat):List (List Nat):=(cK l).map λc=>fx (ax c)
theorem pc (l:List Nat):jR l=(cK l).map λc=>ax (fx c):=by
 unfold jR
 exact l51 λc _=>nN c
theorem pd {p:Nat->Bool}:∀{l:List Nat} {c:Nat},c∈l.takeWhile p->p c=true
 | [],_,h=>by simp at h
 |x::r,c,h=>by
  rw[List.takeWhile_cons] at h
  split at h
  ·rename_i hx
   rcases l9.mp h with rfl |h
   ·exact hx
   ·exact pd h
  ·simp at h
theorem lc {p:Nat->Bool}:∀{l:List Nat} {y:Nat} {q:List Nat},l.dropWhile p=y::q->p y=false
 | [],_,_,h=>by simp at h
 |x::r,y,q,h=>by
  rw[List.dropWhile_cons] at h
  split at h
  ·exact lc h
  ·rename_i hx
   cases h
   simpa using hx
def bareC (l:List Nat):List Nat:=bM ([32]:List Nat).contains l
theorem jS (p:Nat->Bool)(l:List Nat):∃t,l=bM p l++t/\(∀c∈t,p c=true)/\(bM p l=[] ∨ ∃q y,bM p l=q++[y]/\p y=false):=by
 refine⟨(l.reverse.takeWhile p).reverse,?_,?_,?_⟩
 ·unfold bM
  rw[<- List.reverse_append,l57,List.reverse_reverse]
 ·intro c hc
  rw[List.mem_reverse] at hc
  exact pd hc
 ·unfold bM
  cases h:l.reverse.dropWhile p with
  |nil=>exact .inl rfl
  |cons y q=>
   refine .inr ⟨q.reverse,y,by simp,?_⟩
   exact lc h
theorem cL (p:Nat->Bool)(l:List Nat):bM p l <+: l:=by
 obtain⟨t,e,_⟩:=jS p l
 exact⟨t,e.symm⟩
theorem bare_len (l:List Nat):(bareC l).length<=l.length:=(cL _ l).length_le
def nameSigns:List Nat:=[97,98,99,100,101,102,103,104,105,106,107,108,109,110,111,112,113,114,115,116,117,118,119,120,121,122,65,66,67,68,69,70,71,72,73,74,75,76,77,78,79,80,81,82,83,84,85,86,87,88,89,90,48,49,50,51,52,53,54,55,56,57]
def bE (l:List Nat):Bool:=decide (1<=l.length)&&decide (l.length<=12)&&l.all nameSigns.contains
def pe (l:List Nat):List Nat:=l.map PyProof.Rows.lo1
inductive Srt where
 |empty |fence
 |quote (r:List Nat)
 |heading (lv:Nat) (w:List Nat)
 |cells (ts:List (List Nat))
 |note (n w:List Nat)
 |name (n t:List Nat)
 |item (far:Nat) (sg:Nat) (w:List Nat)
 |plain (far:Nat) (w:List Nat)
def ld (l:List Nat):List Nat:=if [62,32].isPrefixOf l then l.drop 2 else l.drop 1
def fL (b:List Nat):Nat:=(b.takeWhile ([61]:List Nat).contains).length
def eH (b:List Nat):Nat:=if fL b > 3 ∨ ¬ [32].isPrefixOf (b.drop (fL b)) then 0 else fL b
def bY (b:List Nat):Bool:=decide (2<=b.length)&&[124].isPrefixOf b&&b9 b (b.length - 1)
def defC (b:List Nat):Option Srt:=
 match h7 [93,58,32] b with
 |none=>none
 |some p=>
  if ¬ [91].isPrefixOf b then none
  else if [91,94].isPrefixOf b/\bE ((b.drop 2).take (p - 2)) then some (.note (pe ((b.drop 2).take (p - 2))) (bx [32] (bj (b.drop (p+3)))))
  else if bE ((b.drop 1).take (p - 1))/\(bj (b.drop (p+3))).length=1 then some (.name (pe ((b.drop 1).take (p - 1))) ((bj (b.drop (p+3))).headD []))
  else none
def pf (b:List Nat):Srt:=
 let body:=b.dropWhile ([32]:List Nat).contains
 if [45,32].isPrefixOf body ∨ [43,32].isPrefixOf body then .item (b.length - body.length) (body.headD 0) (fx (body.drop 2)) else .plain (b.length - body.length) (fx body)
def fP (l:List Nat):Srt:=
 let b:=bareC l
 if b=[] then .empty
 else if [62].isPrefixOf b then .quote (ld l)
 else if b=[126,126,126] then .fence
 else if eH b > 0 then .heading (eH b) (fx (b.drop (eH b)))
 else if bY b then .cells (jR ((b.drop 1).take (b.length - 2)))
 else match defC b with
  |some d=>d
  |none=>pf b
theorem pre2 (x y:Nat)(l:List Nat):[x,y].isPrefixOf l=true ↔ l[0]? = some x/\l[1]? = some y:=by
 cases l with
 |nil=>simp
 |cons a r=>
  cases r with
  |nil=>simp
  |cons b r=>
   simp
   constructor
   ·rintro⟨rfl,rfl⟩;exact⟨rfl,rfl⟩
   ·rintro⟨rfl,rfl⟩;exact⟨rfl,rfl⟩
theorem jT (c:Nat):∀l:List Nat,((aQ c l).map List.length).sum+(aQ c l).length=l.length+1
 | []=>by simp[aQ]
 |x::r=>by
  have ih:=jT c r
  by_cases hx:x=c
  ·subst hx
   rw[bL]
   simp only[l19,l23,l35,l8]
   omega
  ·obtain⟨q,t,e1,e2⟩:=aY c x r hx
   rw[e2]
   rw[e1] at ih
   simp only[l19,l8,l35] at ih ⊢
   omega
theorem iB (p:List Nat->Bool):∀ps:List (List Nat),((ps.filter p).map List.length).sum+(ps.filter p).length<=(ps.map List.length).sum+ps.length
 | []=>by simp
 |q::r=>by
  have ih:=iB p r
  rw[List.filter_cons]
  split
  ·simp only[l19,l35,l8];omega
  ·simp only[l19,l35,l8];omega
theorem jU (l:List Nat):((bj l).map List.length).sum+(bj l).length<=l.length+1:=by
 have h1:=jT 32 l
 have h2:=iB (λw=>w≠[]) (aQ 32 l)
 unfold bj
 omega
theorem glue_len':∀ps:List (List Nat),ps≠[]->(bx [32] ps).length+1=(ps.map List.length).sum+ps.length
 | [],h=>absurd rfl h
 | [p],_=>by simp[bx]
 |p::q::r,_=>by
  have ih:=glue_len' (q::r) (by simp)
  show (p++[32]++bx [32] (q::r)).length+1=_
  simp only[l5,l19,l35,l8,l23] at ih ⊢
  omega
theorem tidy_len (l:List Nat):(fx l).length<=l.length:=by
 unfold fx
 cases h:bj l with
 |nil=>simp[bx]
 |cons p r=>
  have h1:=glue_len' (p::r) (by simp)
  have h2:=jU l
  rw[h] at h2
  omega
theorem ph (ps:List (List Nat)):((ps.map S).map PySem.Str.length)=ps.map List.length:=by
 rw[l28]
 exact l51 λp _=>am p
theorem pi:∀(l:List Nat) (p:Nat),((bc p l).map List.length).sum+(bc p l).length=l.length+1
 | [],_=>by simp[bc]
 |x::r,p=>by
  have ih:=pi r x
  rw[bc]
  split
  ·simp only[l19,l23,l35,l8];omega
  ·cases h:bc x r with
   |nil=>exact absurd h (k0 r x)
   |cons a b=>
    rw[h] at ih
    simp only[consH,l19,l8,l35] at ih ⊢
    omega
theorem pj (l:List Nat):(cK l).length<=l.length+1:=by have:=pi l 0;unfold cK;omega
def Asc (l:List Nat):Prop:=∀c∈l,c < 128
theorem strOk_S {l:List Nat}(h:Asc l):PySem.PyData.strOk (S l)=true:=by
 unfold PySem.PyData.strOk
 rw[Array.all_eq_true_iff_forall_mem]
 intro c hc
 have:c∈l:=by simpa using hc
 have:=h c this
 exact decide_eq_true (by omega)
theorem gy (l:List Nat):∀(ps:List Nat) (b:Nat),(cz l b ps).length=ps.length
 | [],_=>rfl
 |p::r,b=>by rw[cz,l8,gy l r (p+1),l8]
def dR (b:Nat)(ps:List Nat)(i:Nat):Nat:=if i=0 then b else ps.getD (i - 1) 0+1
theorem gA (l:List Nat):∀(ps:List Nat) (b i p:Nat),ps[i]? = some p->(cz l b ps)[i]? = some ((l.drop (dR b ps i)).take (p - dR b ps i))
 | [],_,_,_,h=>by simp at h
 |q::r,b,0,p,h=>by
  simp at h
  subst h
  rfl
 |q::r,b,i+1,p,h=>by
  have ih:=gA l r (q+1) i p (by simpa using h)
  rw[cz,List.getElem?_cons_succ,ih]
  have e:dR (q+1) r i=dR b (q::r) (i+1):=by
   cases i with
   |zero=>simp[dR]
   |succ i=>simp[dR]
  rw[e]
end Lm
set_option maxHeartbeats 8000000
namespace Lw
open PySem L2 Lm
structure Tx (mg:Str->Option Value):Prop where
 n_len:mg "len"=none
 n_range:mg "range"=none
 n_isinstance:mg "isinstance"=none
 n_all:mg "all"=none
 n_str:mg "str"=none
 n_bool:mg "bool"=none
 n_tuple:mg "tuple"=none
 n_enumerate:mg "enumerate"=none
 n_int:mg "int"=none
 n_list:mg "list"=none
 g_NAME_SIGNS:∃t,mg "NAME_SIGNS"=some (.str (S nameSigns) t)
 g_LONGEST_NAME:∃t,mg "LONGEST_NAME"=some (.int 12 t)
 g_FENCE:∃t,mg "FENCE"=some (.str (S [126,126,126]) t)
 g_DEEPEST_HEADING:∃t,mg "DEEPEST_HEADING"=some (.int 3 t)
 g_NAME_END:∃t,mg "NAME_END"=some (.str (S [93,58,32]) t)
theorem big {n:Nat}(h:n<=1000000):n<=sizeLine:=by rw[sizeLine_eq];omega
theorem bigS {l:List Nat}(h:l.length<=1000000):(S l).length<=sizeLine:=by rw[am];exact big h
theorem at_S {l:List Nat}{i:Nat}(h:i < l.length):atI (S l).cps.toList (i:Int)=some (l.getD i 0):=by
 rw[ek]
 refine aC ?_
 rw[l39,List.getElem?_eq_getElem h]
 simp
theorem getD_some {l:List Nat}{i:Nat}(h:i < l.length):l[i]? = some (l.getD i 0):=by
 rw[l39,List.getElem?_eq_getElem h]
 simp
section
variable {a b:List Nat}{x y:V}
theorem neT (h:(!decide (x=y))=true)(ex:x=V.str (S a))(ey:y=V.str (S b)):a≠b:=by
 subst ex ey
 intro e
 subst e
 simp at h
theorem neF (h:¬ (!decide (x=y))=true)(ex:x=V.str (S a))(ey:y=V.str (S b)):a=b:=by
 subst ex ey
 have h2:V.str (S a)=V.str (S b):=by simpa using h
 exact hZ (V.str.inj h2)
theorem eqT (h:decide (x=y)=true)(ex:x=V.str (S a))(ey:y=V.str (S b)):a=b:=by
 subst ex ey
 exact hZ (V.str.inj (of_decide_eq_true h))
end
section
variable {P:Program}{w:World}{K:PySem.W.Frag}{mg:Str->Option Value}{base:Heap}
def spBar:Sp:=λvs H Q _=>∃(l:List Nat) (i:Nat),vs=[.str (S l), .int i]/\l.length<=1000000/\i < l.length/\Q (.bl (b9 l i)) H
def iS:Sp:=λvs H Q _=>∃l:List Nat,vs=[.str (S l)]/\l.length<=1000000/\∀r H',Same H H'->H r=none->H' r=some (.lst ((bj l).map λw=>V.str (S w)))->Q (.ref r) H'
def jV:Sp:=λvs H Q _=>∃l:List Nat,vs=[.str (S l)]/\l.length<=1000000/\∀H',Same H H'->Q (.str (S (fx l))) H'
theorem pp (ws:List (List Nat)):(ws.map λw=>V.str (S w))=(ws.map S).map V.str:=by rw[l28];rfl
theorem jW (l:List Nat)(h:l.length<=1000000):(((bj l).map S).map (·.length)).sum+((bj l).map S).length * (S [32]).length<=sizeLine:=by
 have h1:=jU l
 have h2:sizeLine=16777216:=sizeLine_eq
 have h3:(((bj l).map S).map (·.length))=(bj l).map List.length:=ph _
 rw[h3,l6]
 have h4:(S [32]).length=1:=rfl
 rw[h4]
 omega
end
abbrev vS (l:List Nat):V := .str (S l)
section
variable {P:Program}{w:World}{K:PySem.W.Frag}{mg:Str->Option Value}{base:Heap}
def spCells:Sp:=λvs H Q _=>∃l:List Nat,vs=[vS l]/\l.length<=1000000/\∀r H',Same H H'->H r=none->H' r=some (.lst ((jR l).map vS))->Q (.ref r) H'
theorem jX {α β:Type}(f:α->β)(xs:List α)(i:Nat)(x:α)(h:xs[i]? = some x):(xs.take i).map f++[f x]=(xs.take (i+1)).map f:=by
 rw[List.take_succ,h];simp
theorem nO {ps:List Nat}{i p:Nat}(h:ps[i]? = some p):dR 0 ps (i+1)=p+1:=by
 unfold dR
 rw[if_neg (by omega),l69,l39,h];rfl
theorem mB (n d b:Nat)(hb:b<=n):bD n d (some (b:Int))=b:=by
 unfold bD
 simp only[]
 omega
theorem cut_mid (l:List Nat)(b p:Nat)(hp:p<=l.length)(hb:b<=l.length):cutL l (some (b:Int)) (some (p:Int))=(l.drop b).take (p - b):=by
 unfold cutL
 rw[mB _ _ _ hp,mB _ _ _ hb]
def pInt (p:Nat->Bool):V->Bool
 | .int i=>p i.toNat
 |_=>false
theorem nP (p:Nat->Bool)(n:Nat):((((List.range n).map λ(i:Nat)=>V.int (0+(i:Int))).filter (pInt p)).map id)=((List.range n).filter p).map λ(i:Nat)=>V.int i:=by
 rw[List.map_id,List.filter_map]
 have:(List.range n).filter (pInt p ∘ λ(i:Nat)=>V.int (0+(i:Int)))=(List.range n).filter p:=by
  refine List.filter_congr λi _=>?_
  show p (0+(i:Int)).toNat=p i
  congr 1
  omega
 rw[this]
 refine l51 λi _=>?_
 rw[Int.zero_add]
theorem bars_len (l:List Nat):((List.range l.length).filter (b9 l)).length<=l.length:=by
 have:=List.length_filter_le (b9 l) (List.range l.length)
 rwa [l56] at this
theorem beg_bars {l:List Nat}{i p:Nat}(hp:((List.range l.length).filter (b9 l)++[l.length])[i]? = some p):dR 0 ((List.range l.length).filter (b9 l)++[l.length]) i<=l.length:=by
 unfold dR
 split
 ·exact l14 _
 ·rename_i h0
  have hi:=(List.getElem?_eq_some_iff.mp hp).1
  rw[l5,l80] at hi
  have h1:i - 1 < ((List.range l.length).filter (b9 l)).length:=by omega
  rw[l39,List.getElem?_append_left h1,List.getElem?_eq_getElem h1]
  have:=l61.mp (l74.mp (l62 h1)).1
  show ((List.range l.length).filter (b9 l))[i - 1]+1<=l.length
  omega
end
theorem cut_from (l:List Nat)(b:Nat):cutL l (some (b:Int)) none=l.drop b:=by
 unfold cutL
 have e:bD l.length 0 (some (b:Int))=min b l.length:=by unfold bD;simp only[];omega
 rw[e]
 show (l.drop (min b l.length)).take (l.length - min b l.length)=l.drop b
 rcases Nat.le_total b l.length with h |h
 ·rw[l83 h,l41 (by rw[l25];exact l7 _)]
 ·rw[l84 h,Nat.sub_self,List.take_zero,l88 h]
theorem cut_to (l:List Nat)(p:Nat):cutL l none (some (p:Int))=l.take p:=by
 unfold cutL
 have e:bD l.length l.length (some (p:Int))=min p l.length:=by unfold bD;simp only[];omega
 rw[e]
 show (l.drop 0).take (min p l.length - 0)=l.take p
 rw[List.drop_zero,Nat.sub_zero]
 rcases Nat.le_total p l.length with h |h
 ·rw[l83 h]
 ·rw[l84 h,l41 (l7 _),l41 h]
theorem cut_any (l:List Nat)(b p:Nat):cutL l (some (b:Int)) (some (p:Int))=(l.drop b).take (p - b):=by
 unfold cutL
 have e:bD l.length 0 (some (b:Int))=min b l.length:=by unfold bD;simp only[];omega
 have e2:bD l.length l.length (some (p:Int))=min p l.length:=by unfold bD;simp only[];omega
 rw[e,e2]
 rcases Nat.le_total b l.length with h |h
 ·rw[l83 h]
  rcases Nat.le_total p l.length with h2 |h2
  ·rw[l83 h2]
  ·rw[l84 h2,l41 (by rw[l25];exact l7 _),l41 (by rw[l25];omega)]
 ·rw[l84 h,l88 h,l88 (l7 _)];simp
theorem pq (l:List Nat)(h:2<=l.length):cutL l (some 1) (some (-1))=(l.drop 1).take (l.length - 2):=by
 unfold cutL
 have e:bD l.length 0 (some 1)=1:=by unfold bD;simp only[];omega
 have e2:bD l.length l.length (some (-1))=l.length - 1:=by unfold bD;simp only[];omega
 rw[e,e2]
 rfl
theorem d8 (l:List Nat)(b:Nat):Txt.slice (S l) (some (b:Int)) none=S (l.drop b):=by rw[gv,cut_from]
section
variable {P:Program}{w:World}{K:PySem.W.Frag}{mg:Str->Option Value}{base:Heap}
def mC:Sp:=λvs H Q _=>∃l:List Nat,vs=[vS l]/\l.length<=1000000/\∀H',Same H H'->Q (.bl (bE l)) H'
def pw:V->V
 | .str x => .bl (x.cps.toList.all nameSigns.contains)
 |_ => .bl false
def iT:Sp:=λvs H Q _=>∃l:List Nat,vs=[vS l]/\l.length<=1000000/\bE l=true/\∀H',Same H H'->Q (vS (pe l)) H'
theorem name_asc {l:List Nat}(h:bE l=true):Asc l:=by
 intro c hc
 unfold bE at h
 rw[Bool.and_eq_true] at h
 have:=l47.mp h.2 c hc
 have key:∀x∈nameSigns,x < 128:=by decide
 exact key c (by simpa using this)
def pA:Sp:=λvs H Q _=>∃l:List Nat,vs=[vS l]/\l.length<=1000000/\Q (vS (ld l)) H
def pB:Sp:=λvs H Q _=>∃l:List Nat,vs=[vS l]/\l.length<=1000000/\Q (.int (eH l)) H
theorem gB (p:Nat->Bool)(l:List Nat):(l.takeWhile p).length+(l.dropWhile p).length=l.length:=by
 rw[<- l5,l57]
def spIsC:Sp:=λvs H Q _=>∃l:List Nat,vs=[vS l]/\l.length<=1000000/\Q (.bl (bY l)) H
end
theorem sl_any (l:List Nat)(b p:Nat):Txt.slice (S l) (some (b:Int)) (some (p:Int))=S ((l.drop b).take (p - b)):=by rw[gv,cut_any]
def wEmpty:List Nat:=[101,109,112,116,121]
def wQuote:List Nat:=[113,117,111,116,101]
def wFence:List Nat:=[102,101,110,99,101]
def mD:List Nat:=[104,101,97,100,105,110,103]
def wCells:List Nat:=[99,101,108,108,115]
def wNote:List Nat:=[110,111,116,101]
def wName:List Nat:=[110,97,109,101]
def wItem:List Nat:=[105,116,101,109]
def pC:List Nat:=[112,108,97,105,110]
def SrtAt (K:PySem.W.Frag)(H:Hp)(p:Addr):Srt->Prop
 | .empty=>H p=some (.tup [vS wEmpty])
 | .fence=>H p=some (.tup [vS wFence])
 | .quote r=>H p=some (.tup [vS wQuote,vS r])
 | .heading lv w=>H p=some (.tup [vS mD, .int lv,vS w])
 | .cells ts=>∃q,H p=some (.tup [vS wCells, .ref q])/\H q=some (.lst (ts.map vS))
 | .note n w=>H p=some (.tup [vS wNote,vS n,vS w])
 | .name n t=>H p=some (.tup [vS wName,vS n,vS t])
 | .item far sg w=>H p=some (.tup [vS wItem, .int far,vS [sg],vS w])
 | .plain far w=>H p=some (.tup [vS pC, .int far,vS w])
def DefV (K:PySem.W.Frag)(H:Hp)(v:V):Option Srt->Prop
 |none=>v = .non
 |some d=>∃p,v = .ref p/\SrtAt K H p d
def Tells (t:TT)(σ:St)(H:Hp)(a:Bool):Prop:=∀R:Bool->Hp->Prop,(∀H',Same H H'->R a H')->t σ H R
theorem iU {t u:TT}{σ:St}{H:Hp}(a b:Bool)(ht:Tells t σ H a)(hu:a=true->∀H1,Same H H1->Tells u σ H1 b):Tells (tAnd t u) σ H (a&&b):=by
 intro R k
 refine ht _ λH1 s1=>?_
 cases a with
 |true=>exact hu rfl H1 s1 R λH' s'=>k H' (s1.trans s')
 |false=>exact k H1 s1
theorem t_or {t u:TT}{σ:St}{H:Hp}(a b:Bool)(ht:Tells t σ H a)(hu:a=false->∀H1,Same H H1->Tells u σ H1 b):Tells (tOr t u) σ H (a||b):=by
 intro R k
 refine ht _ λH1 s1=>?_
 cases a with
 |false=>exact hu rfl H1 s1 R λH' s'=>k H' (s1.trans s')
 |true=>exact k H1 s1
theorem t_not {t:TT}{σ:St}{H:Hp}(a:Bool)(ht:Tells t σ H a):Tells (tNot t) σ H (!a):=λR k=>ht _ λH1 s1=>k H1 s1
theorem s_if {t:TT}{f g:TS}{D:Ends}{σ:St}{H:Hp}(a:Bool)(ht:Tells t σ H a)(k1:∀H',Same H H'->a=true->f D σ H')(k2:∀H',Same H H'->a=false->g D σ H'):tIfS t f g D σ H:=
 ht _ λH' s'=>ite2 (k1 H' s') λc=>k2 H' s' (Bool.eq_false_iff.mpr c)
theorem dA {K:PySem.W.Frag}{te:TE}{σ:St}{H:Hp}{y:Str}(l z:List Nat)(hl:l.length<=1000000)(ey:y=S z)(he:∀R':VK,R' (vS l) H->te σ H R'):
  Tells (tB (tBM K "str" (rS2 λz y => .bl (Txt.startswith z y)) te (aE (tC (.str y)) tNil))) σ H (z.isPrefixOf l):=by
 intro R k
 refine he _ ⟨rfl,_,_,rfl,rfl,bigS hl,_,rfl,?_⟩
 rw[ey,ez]
 exact k H (Same.refl H)
section
variable {P:Program}{w:World}{K:PySem.W.Frag}{mg:Str->Option Value}{base:Heap}
def spDef (K:PySem.W.Frag):Sp:=λvs H Q _=>∃l:List Nat,vs=[vS l]/\l.length<=1000000/\∀v H',Same H H'->DefV K H' v (defC l)->Q v H'
def pD (K:PySem.W.Frag):Sp:=λvs H Q _=>∃l:List Nat,vs=[vS l]/\l.length<=1000000/\∀p H',Same H H'->SrtAt K H' p (pf l)->Q (.ref p) H'
def mE (K:PySem.W.Frag):Sp:=λvs H Q _=>∃l:List Nat,vs=[vS l]/\l.length<=1000000/\∀p H',Same H H'->SrtAt K H' p (fP l)->Q (.ref p) H'
theorem t_eq {te:TE}{σ:St}{H:Hp}{y:Str}(a b:List Nat)(ey:y=S b)(he:∀R':VK,R' (vS a) H->te σ H R'):Tells (bH (tOp rEq te (tC (.str y)))) σ H (decide (a=b)):=by
 intro R k
 refine he _ ⟨rfl,_,rfl,?_⟩
 have:decide (vS a=V.str y)=decide (a=b):=by
  rw[ey]
  exact decide_eq_decide.mpr ⟨λh=>hZ (V.str.inj h),λh=>by rw[h]⟩
 rw[this]
 exact k H (Same.refl H)
end
theorem pE {z:Str}{g:TG}{tb:TS}{D:Ends}{σ:St}{H:Hp}(Pv:Nat->St->Hp->Prop)(h0:Pv 0 σ H)
  (hs:∀i c σ H,z.cps.toList[i]? = some c->Pv i σ H->g (.str ⟨#[c]⟩) σ H λσ2 H2=>tb { D with nx:=Pv (i+1),ct:=Pv (i+1),bk:=D.nx } σ2 H2) (hd:∀σ H,Pv z.length σ H->D.nx σ H):
  ∃W:Nat->Nat->St->Hp->Prop,(∃m,W 0 m σ H)/\∀i m σ H,W i m σ H →
   ((Its z).stop i H/\D.nx σ H) ∨ ((Its z).go i H/\∃N:St->Hp->Prop,(∀σ' H',N σ' H'->∃m',m' < m/\W (i+1) m' σ' H')/\∀x H',(Its z).yld i H x H'->g x σ H' λσ2 H2=>tb { D with nx:=N,ct:=N,bk:=D.nx } σ2 H2):=by
 refine⟨λi m σ H=>m=z.length - i/\i<=z.length/\Pv i σ H,⟨z.length,by simp,l14 _,h0⟩,?_⟩
 rintro i m σ H ⟨rfl,hi,p⟩
 by_cases hlt:i < z.length
 ·refine .inr ⟨hlt,Pv (i+1),λσ' H' q=>⟨z.length - (i+1),by omega,rfl,hlt,q⟩,?_⟩
  rintro x H' ⟨rfl,c,hc,rfl⟩
  exact hs i c σ H' (by simpa using hc) p
 ·have e:i=z.length:=by omega
  subst e
  exact .inl ⟨l7 _,hd σ H p⟩
section
variable {P:Program}{w:World}{K:PySem.W.Frag}{mg:Str->Option Value}{base:Heap}
def ascB (x:Str):Bool:=x.cps.toList.all λc=>decide (c < 128)
theorem asc_of {x:Str}(h:ascB x=true):Asc x.cps.toList:=λc hc=>of_decide_eq_true (l47.mp h c hc)
end
def okV (n:Nat):V->Bool
 | .str x=>ascB x&&decide (x.length<=n)
 |_=>false
theorem pF {n:Nat}{v:V}(h:okV n v=true):∃l,v=vS l/\Asc l/\l.length<=n:=by
 cases v with
 |str x=>
  have h:(ascB x&&decide (x.length<=n))=true:=h
  rw[Bool.and_eq_true] at h
  refine⟨x.cps.toList,by rw[vS,S_of],asc_of h.1,?_⟩
  have:=of_decide_eq_true h.2
  simpa[Str.length] using this
 |_=>exact Bool.noConfusion h
theorem at_all {xs:List V}{i:Int}{Pr:V->Prop}(h:∀v∈xs,Pr v)(h0:0<=i)(h1:i < (xs.length:Nat)):∃v,atI xs i=some v/\Pr v:=by
 have hi:i.toNat < xs.length:=by omega
 refine⟨xs[i.toNat],?_,h _ (l62 hi)⟩
 have:=aC (List.getElem?_eq_getElem hi)
 rwa [show ((i.toNat:Nat):Int)=i by omega] at this
theorem at_ok {xs:List V}{i:Int}{n m:Nat}(h:xs.all (okV n)=true)(hm:xs.length=m)(h0:0<=i)(h1:i < (m:Nat)):∃l,atI xs i=some (vS l)/\Asc l/\l.length<=n:=by
 obtain⟨v,e,p⟩:=at_all (Pr:=λv=>okV n v=true) (λv hv=>l47.mp h v hv) h0 (by omega)
 obtain⟨l,rfl,h2,h3⟩:=pF p
 exact⟨l,e,h2,h3⟩
theorem ay {a b:List Nat}(h:Asc a)(k:Asc b):Asc (a++b):=λc hc=>by
 rcases l18.mp hc with hc |hc
 ·exact h c hc
 ·exact k c hc
def Ev (te:TE)(σ:St)(H:Hp)(v:V):Prop:=∀R:VK,R v H->te σ H R
def EvO (t:TO)(σ:St)(H:Hp)(o:Option Int):Prop:=∀R:Option Int->Hp->Prop,R o H->t σ H R
section
variable {σ:St}{H:Hp}{ta tb:TE}{i j:Int}{a b l:List Nat}{v:V}
theorem ev_v {k:Nat}(h:σ[k]? = some (some v)):Ev (tVar k) σ H v:=λR r=>⟨v,h,r⟩
theorem ev_c:Ev (tC v) σ H v:=λR r=>r
theorem aN {y:Str}(e:y=S b):Ev (tC (.str y)) σ H (vS b):=λR r=>by rw[e];exact r
theorem lf {g:Int->V}(h1:Ev ta σ H (.int i))(e:g i=v):Ev (tUn (rU g) ta) σ H v:=λR r=>h1 _ ⟨i,rfl,by rw[e];exact r⟩
theorem iV:EvO gg σ H none:=λR r=>r
theorem iW (h:Ev ta σ H (.int i)):EvO (oR ta) σ H (some i):=λR r=>h _ ⟨i,rfl,r⟩
theorem iX {tl th:TO}{lo hi:Option Int}(hl:l.length<=1000000)(h1:Ev ta σ H (vS l))(h2:EvO tl σ H lo)(h3:EvO th σ H hi)(e:cutL l lo hi=a):Ev (tSl rSlS ta tl th) σ H (vS a):=λR r=>
 h1 _ (h2 _ (h3 _ ⟨_,rfl,bigS hl,by rw[gv,e];exact r⟩))
theorem aH (h1:Ev ta σ H (vS a))(h2:Ev tb σ H (vS b))(hz:a.length+b.length<=1000000):Ev (tOp (λx y H Q=>∃i j,x = .str i/\y = .str j/\i.length+j.length<=sizeLine/\Q (.str (i++j)) H) ta tb) σ H (vS (a++b)):=λR r=>
 h1 _ (h2 _ ⟨_,_,rfl,rfl,by rw[am,am];exact big hz,by rw[bb];exact r⟩)
end
theorem mF (l:List Nat):cutL l none (some (-1))=l.dropLast:=by
 unfold cutL
 have e:bD l.length l.length (some (-1))=l.length - 1:=by unfold bD;simp only[];omega
 rw[e,List.dropLast_eq_take]
 rfl
def lastW:Srt->Option (List Nat)
 | .heading _ w=>some w
 | .note _ w=>some w
 | .item _ _ w=>some w
 | .plain _ w=>some w
 |_=>none
def kindW:Srt->List Nat
 | .empty=>wEmpty
 | .fence=>wFence
 | .quote _=>wQuote
 | .heading _ _=>mD
 | .cells _=>wCells
 | .note _ _=>wNote
 | .name _ _=>wName
 | .item _ _ _=>wItem
 | .plain _ _=>pC
inductive Flat (K:PySem.W.Frag) (H:Hp):V->Prop where
 |int (i:Int):Flat K H (.int i)
 |str (x:Str):Flat K H (.str x)
 |lst {q:Addr} {xs:List V}:H q=some (.lst xs)->Flat K H (.ref q)
theorem SrtAt.parts {K:PySem.W.Frag}{H:Hp}{p:Addr}:∀{r:Srt},SrtAt K H p r->∃ys,H p=some (.tup (vS (kindW r)::ys))/\(∀y∈ys,Flat K H y)/\∀w,lastW r=some w->∃zs,ys=zs++[vS w]
 | .empty,h=>⟨[],h,(λ_ z=>nomatch z),(λ_ z=>nomatch z)⟩
 | .fence,h=>⟨[],h,(λ_ z=>nomatch z),(λ_ z=>nomatch z)⟩
 | .quote r,h=>⟨[vS r],h,λy z=>by rw[show y=vS r by simpa using z];exact .str _,λ_ z=>nomatch z⟩
 | .heading lv w, h => ⟨[.int lv,vS w],h,λy z=>by
   rcases l9.mp z with rfl |z
   ·exact .int _
   ·rw[show y=vS w by simpa using z];exact .str _,λu z=>⟨[.int lv],by cases z;rfl⟩⟩
 | .cells ts,⟨q,h,hq⟩=>⟨[.ref q],h,λy z=>by rw[show y = .ref q by simpa using z];exact .lst hq,λ_ z=>nomatch z⟩
 | .note n w, h => ⟨[vS n,vS w],h,λy z=>by
   rcases l9.mp z with rfl |z
   ·exact .str _
   ·rw[show y=vS w by simpa using z];exact .str _,λu z=>⟨[vS n],by cases z;rfl⟩⟩
 | .name n t, h => ⟨[vS n,vS t],h,λy z=>by
   rcases l9.mp z with rfl |z
   ·exact .str _
   ·rw[show y=vS t by simpa using z];exact .str _,λ_ z=>nomatch z⟩
 | .item far sg w, h => ⟨[.int far,vS [sg],vS w],h,λy z=>by
   rcases l9.mp z with rfl |z
   ·exact .int _
   rcases l9.mp z with rfl |z
   ·exact .str _
   ·rw[show y=vS w by simpa using z];exact .str _,λu z=>⟨[.int far,vS [sg]],by cases z;rfl⟩⟩
 | .plain far w, h => ⟨[.int far,vS w],h,λy z=>by
   rcases l9.mp z with rfl |z
   ·exact .int _
   ·rw[show y=vS w by simpa using z];exact .str _,λu z=>⟨[.int far],by cases z;rfl⟩⟩
theorem iY (c:Nat)(n:Nat):Txt.mul (S [c]) (n:Int)=S (List.replicate n c):=by
 unfold Txt.mul
 by_cases h:(n:Int) < 1
 ·rw[if_pos h]
  have:n=0:=by omega
  subst this
  rfl
 ·rw[if_neg h]
  by_cases h1:n=1
  ·subst h1;rfl
  ·rw [if_neg (by
    rw[Bool.or_eq_true]
    rintro(z |z)
    ·have:(n:Int)=1:=by simpa using z
     omega
    ·rw[am] at z;simp at z)]
   have key:∀(m:Nat) (acc:List Nat),List.foldl (λx1 x2=>x1++x2) acc.toArray (List.replicate m (S [c]).cps)=(acc++List.replicate m c).toArray:=by
    intro m
    induction m with
    |zero=>intro acc;simp
    |succ m ih=>
     intro acc
     rw[l49,l79]
     have e:acc.toArray++(S [c]).cps=(acc++[c]).toArray:=by simp
     rw[e,ih (acc++[c]),l49]
     simp
   have:=key n []
   rw[show (n:Int).toNat=n by omega]
   simp only[l55] at this
   rw[show (#[]:Array Nat)=([]:List Nat).toArray from rfl,this]
theorem gC {n:Nat}{k:Nat}{fr:List Nat}{g:TG}{tt:TT}{te:TE}{σ:St}{H0:Hp}{Q:Addr->Hp->Prop}(lo:Int)(Pr:V->Prop)(hl:n<=sizeLine)
  (ht:∀i,i < n->∀H',Same H0 H'->∀(C:V->Hp->Prop)(N:Hp->Prop),(∀v H4,Same H' H4->Pr v->C v H4) →
   g (.int (lo+(i:Nat))) (nfS k fr σ) H' λσ2 H2=>nfLe k fr σ σ2/\tt σ2 H2 λb H3=>if b=true then te σ2 H3 C else N H3)
  (hq:∀D H' ys,H0 D=none->Same H0 H'->H' D=some (.lst ys)->ys.length=n->(∀y∈ys,Pr y)->Q D H'):rLC k fr g tt te σ (Itr lo n) H0 Q:=by
 intro D hD
 refine⟨λi m acc H=>m=n - i/\i<=n/\acc.length=i/\(∀y∈acc,Pr y)/\H D=some (.lst acc)/\Same H0 H,⟨n,by simp,l14 _,rfl,(λ_ z=>nomatch z),aa,ac hD _⟩,?_⟩
 rintro i m acc H ⟨rfl,hi,ha,hP,hDa,sm⟩
 refine⟨hDa,?_⟩
 by_cases hlt:i < n
 ·refine .inr ⟨hlt,?_⟩
  rintro x H' ⟨rfl,rfl⟩
  refine ht i hlt _ sm _ _ λv H4 s4 pv=>?_
  refine⟨s4 _ _ hDa,by omega,n - (i+1),by omega,rfl,hlt,by rw[l5,ha];rfl,?_,aa,au hD (sm.trans s4)⟩
  intro z hz
  rcases l18.mp hz with hz |hz
  ·exact hP z hz
  ·rw[show z=v by simpa using hz];exact pv
 ·exact .inl ⟨by show n<=i;omega,hq D H acc hD sm hDa (by omega) hP⟩
end Lw
namespace L2
open PySem PySem.Spec PyProof.Rows
section
variable {X:Cx}{c P:Addr}{k i:Nat}{x name:Str}{ps:List Str}{e:Expr}{es:List Expr}{t:TA}{p pos:Pos}{params:Arguments}{body:List Stmt}{scope:Scope}{qs:List (Pos×Str)}
theorem iC (hst:aG (e::es)=true):b7 e=false/\aG es=true:=by
 unfold aG at hst
 rw[Bool.and_eq_true,Bool.not_eq_true'] at hst
 exact hst
end
end L2
namespace Lm
end Lm
namespace L2
open PySem PySem.Spec PyProof.Rows
section
variable {X:Cx}{k:Nat}{C:Addr}{x m f:Str}{ps:List Str}{sp:Sp}{e o value:Expr}{es:List Expr}{ta tv:TE}{t:TA}{p pos pos' apos:Pos}
theorem xfld (he:XE X e ta)(hb:c7 e=true:=by rfl):XE X (.Attribute e f pos) (tFld X.K ta f):=⟨pe_fld he.h (base_of hb)⟩
theorem aV (ha:XE X o ta)(hv:XE X value tv)(hs:swapsWith value (some (.Attribute o f pos')) pos.line X.env=pure false:=by rfl):XS X (.Assign [.Attribute o f pos'] value pos) (sFld X.K ta tv f):=⟨ps_fld ha.h hv.h hs⟩
structure New (P:Program)(w:World)(K:PySem.W.Frag)(mg:Str->Option Value)(base:Heap)(k:Nat)(x:Str)(C:Addr)(ps:List Str)(sp:Sp):Prop where
 ex:∃f fd,Mk K C f/\FnOk P w K mg base CX0 k f fd ps sp/\mg x=some (.ref C)/\Binds K fd ps []
theorem xnew (D:New X.prog X.w X.K X.mg X.base k x C ps sp)(hr:Room (k+1) X.A)(ha:XA X (e::es) t)(hg:Gl X x:=by exact rfl) (hdb:(x==("__debug__":Str))=false:=by decide) (hst:aG (e::es)=true:=by rfl):
  XE X (.Call (.Name x p) (e::es) [] pos) (tMake C sp [] E0 t):=by
 obtain⟨f,fd,M,F,hm,hb⟩:=D.ex
 exact⟨pe_make M F hr hg hm hb .nil pass0 ha.h hdb (aW (iC hst).1) (cH (iC hst).2)⟩
structure MethV (P:Program)(w:World)(K:PySem.W.Frag)(mg:Str->Option Value)(base:Heap)(k:Nat)(C:Addr)(m:Str)(ps:List Str)(sp:Sp):Prop where
 ex:∃f fd,Cls K C/\Meth K C m f/\FnOk P w K mg base CX0 k f fd ps sp/\Binds K fd ps []
theorem MethV.mono {P:Program}{w:World}{K:PySem.W.Frag}{mg:Str->Option Value}{base:Heap}{j k:Nat}{C:Addr}{m:Str}{ps:List Str}{sp:Sp}(V:MethV P w K mg base j C m ps sp)(h:j<=k):MethV P w K mg base k C m ps sp:=let ⟨f,fd,a,b,F,c⟩:=V.ex;⟨f,fd,a,b,F.mono h,c⟩
def tMethV (X:Cx)(k:Nat)(m:Str)(ta:TE)(t:TA):TE:=λσ H Q=>ta σ H λx H1=>∃a C dx fs ps sp,x = .ref a/\H1 a=some (.ins C dx fs)/\fs.lookup m=none/\MethV X.prog X.w X.K X.mg X.base k C m ps sp/\t σ H1 λvs H2=>sp (x::vs) H2 Q E0
theorem xmV0 {pl:Sem Bool}(he:XE X o ta)(hr:Room k X.A)
  (ht : eval (.Call (.Attribute o m apos) [] [] pos) X.env = (do
   let ov ← eval o X.env
   standAt apos.atName
   let (f,first) ← holding [ov] (getMethod ov m pl)
   callWith pos f first (backTo pos (starEach [] X.env)) (backToKw pos (keywordEach [] X.env))):=by rfl):
  XE X (.Call (.Attribute o m apos) [] [] pos) (tMethV X k m ta tNil):=by
 refine⟨λpins s σ H Q I h=>?_⟩
 refine PySem.W.methodCall_KW (pl:=pl) (thn (he.h pins s σ H _ I h) λu s1 ⟨x,H1,I1,rx,a,C,dx,fs,ps,sp,ex,ea,l,V,q⟩=>?_) ht
 subst ex
 obtain rfl:u=Value.ref a:=rx
 obtain⟨f,fd,c,hm,F,hb⟩:=V.ex
 refine nA I1 ea c hm l ?_
 exact PySem.W.callWith_K0 (first:=[.ref a]) I1.kIn hm.kp (run_fn (us:=[.ref a]) (vs:=[.ref a]) (ds:=[]) (dvs:=[]) F hr hb .nil pass0 I1 (.cons rfl .nil) (by rw[l31];exact q))
end
section
variable {X:Cx}{e:Expr}{te:TE}{x:Str}{pos:Pos}
def rEq0 (K:PySem.W.Frag)(neg:Bool):R2:=λx y H Q=>∃p q xs,x = .ref p/\y = .ref q/\SqL K H p xs/\SqL K H q []/\Q (.bl (if neg then !xs.isEmpty else xs.isEmpty)) H
theorem jY (hu:X.A.units+64 < cLine):OpR X (compareOp .Eq) (rEq0 X.K false):=by
 intro pins s σ H x y v u Q I rx ry h
 obtain⟨p,q,xs,rfl,rfl,hp,hq,k⟩:=h
 cases rx
 cases ry
 obtain⟨its,r,pl,_⟩:=I.list hp
 obtain⟨its2,r2,pl2,_⟩:=I.list hq
 have e2:=r2.length
 have e1:=r.length
 cases its2 with
 |cons _ _=>simp at e2
 |nil=>
 cases its with
 |nil=>
  cases xs with
  |cons _ _=>simp at e1
  |nil=>exact SeqAt.eq_listAt (e:=λ_=>true) pl.isList pl2.isList rfl (by omega) (λj h1 _=>absurd h1 (Nat.not_lt_zero _)) ⟨.bl _,H,I,rfl,k⟩
 |cons _ _=>
  cases xs with
  |nil=>simp at e1
  |cons _ _=>exact SeqAt.eq_list_lengthsAt pl.isList pl2.isList (by simp) (by omega) ⟨.bl _,H,I,rfl,k⟩
theorem op_ne0 (hu:X.A.units+64 < cLine):OpR X (compareOp .NotEq) (rEq0 X.K true):=by
 intro pins s σ H x y v u Q I rx ry h
 obtain⟨p,q,xs,rfl,rfl,hp,hq,k⟩:=h
 cases rx
 cases ry
 obtain⟨its,r,pl,_⟩:=I.list hp
 obtain⟨its2,r2,pl2,_⟩:=I.list hq
 have e2:=r2.length
 have e1:=r.length
 cases its2 with
 |cons _ _=>simp at e2
 |nil=>
 cases its with
 |nil=>
  cases xs with
  |cons _ _=>simp at e1
  |nil=>exact SeqAt.RcNeAt.lists (e:=λ_=>true) pl.isList pl2.isList rfl (by omega) (λj h1 _=>absurd h1 (Nat.not_lt_zero _)) _ _ _ _ ⟨.bl _,H,I,rfl,k⟩
 |cons _ _=>
  cases xs with
  |nil=>simp at e1
  |cons _ _=>exact SeqAt.RcNeAt.lists_lengths pl.isList pl2.isList (by simp) (by omega) _ _ _ _ ⟨.bl _,H,I,rfl,k⟩
end
end L2
namespace Lw
open PySem L2 Lm
end Lw
namespace L2
open PySem
open PySem.Spec PyProof.Rows
end L2
namespace Lm
open PySem PySem.Builtin PySem.Builtin.Str PySem.StrLaws
end Lm
namespace L2
open PySem PySem.Spec PyProof.Rows
end L2
namespace Lm
end Lm
namespace L2
open PySem PySem.Spec PyProof.Rows
def KeepX (t:Addr)(H H':Hp):Prop:=∀b o,b≠t->H b=some o->H' b=some o
theorem KeepX.refl {t:Addr}{H:Hp}:KeepX t H H:=λ_ _ _ h=>h
theorem KeepX.trans {t:Addr}{H H1 H2:Hp}(a:KeepX t H H1)(b:KeepX t H1 H2):KeepX t H H2:=λc o n h=>b c o n (a c o n h)
theorem lc_ixJ {J:It}{k:Nat}{fr:List Nat}{g:TG}{tt:TT}{te:TE}{σ:St}{H0:Hp}{Q:Addr->Hp->Prop}(n:Nat)(f:Nat->V)(hl:n<=sizeLine)(hgo:∀i H,i < n->Same H0 H->J.go i H)(hst:∀H,Same H0 H->J.stop n H)
  (ht:∀i H x H',i < n->Same H0 H->J.yld i H x H'->Same H H'/\∀(C:V->Hp->Prop)(N:Hp->Prop),(∀H4,Same H' H4->C (f i) H4) →
   g x (nfS k fr σ) H' λσ2 H2=>nfLe k fr σ σ2/\tt σ2 H2 λb H3=>if b=true then te σ2 H3 C else N H3)
  (hq:∀D H',H0 D=none->Same H0 H'->H' D=some (.lst ((List.range n).map f))->Q D H'):rLC k fr g tt te σ J H0 Q:=by
 intro D hD
 refine⟨λi m acc H=>m=n - i/\i<=n/\Same H0 H/\H D=some (.lst acc)/\acc=(List.range i).map f,⟨n,by simp,l14 _,ac hD _,aa,rfl⟩,?_⟩
 rintro i m acc H ⟨rfl,hi,sm,hDa,rfl⟩
 refine⟨hDa,?_⟩
 by_cases hlt:i < n
 ·refine .inr ⟨hgo i H hlt sm,λx H' y=>?_⟩
  obtain⟨s1,h1⟩:=ht i H x H' hlt sm y
  refine h1 _ _ λH4 s4=>?_
  have s5:=s1.trans s4
  exact⟨s5 _ _ hDa,by rw[l6,l56];omega,n - (i+1),by omega,rfl,hlt,au hD (sm.trans s5),aa,by rw[List.range_succ,l16];rfl⟩
 ·have e:i=n:=by omega
  subst e
  exact .inl ⟨hst H sm,hq D H hD sm hDa⟩
section
variable {X:Cx}{scope:Scope}{cl:List (Str×Addr)}{C:Addr}{N':List Str}{fp:List Addr}{s:Shared}{H:Hp}
theorem iZ:dW (be X scope cl C N' fp s H) (.type "list") (λxs H Q=>∃p ys,xs=[.ref p]/\(SqL X.K H p ys ∨ SqT X.K H p ys)/\∀l,H l=none->Q (.ref l) (upd H l (.lst ys))):=aA (X:=be X scope cl C N' fp s H)
end
mutual
inductive Dn (H:Hp):V->PyData->Prop where
 |non:Dn H .non .none
 |bl (b:Bool):Dn H (.bl b) (.bool b)
 |int (i:Int):Dn H (.int i) (.int i)
 |str (x:Str) (h:PyData.strOk x=true) (hl:x.length<=100000):Dn H (.str x) (.str x)
 |lst {a:Addr} {xs:List V} {ds:List PyData}:H a=some (.lst xs)->DnAll H xs ds->xs.length<=100000->Dn H (.ref a) (.list ds)
 |tup {a:Addr} {xs:List V} {ds:List PyData}:H a=some (.tup xs)->DnAll H xs ds->Dn H (.ref a) (.tuple ds)
inductive DnAll (H:Hp):List V->List PyData->Prop where
 |nil:DnAll H [] []
 |cons {x:V} {xs:List V} {d:PyData} {ds:List PyData}:Dn H x d->DnAll H xs ds->DnAll H (x::xs) (d::ds)
end
mutual
theorem Dn.same {H H':Hp}(s:Same H H'):∀{v:V} {d:PyData},Dn H v d->Dn H' v d
 |_,_, .non => .non
 |_,_, .bl b => .bl b
 |_,_, .int i => .int i
 |_,_, .str x h hl => .str x h hl
 |_,_, .lst e r l => .lst (s _ _ e) (DnAll.same s r) l
 |_,_, .tup e r => .tup (s _ _ e) (DnAll.same s r)
theorem DnAll.same {H H':Hp}(s:Same H H'):∀{vs:List V} {ds:List PyData},DnAll H vs ds->DnAll H' vs ds
 |_,_, .nil => .nil
 |_,_, .cons a b => .cons (Dn.same s a) (DnAll.same s b)
end
mutual
theorem Dn.den {K:PySem.W.Frag}{H:Hp}:∀{v:V} {d:PyData},Dn H v d->Den K H v d
 |_,_, .non => .non
 |_,_, .bl b => .bl b
 |_,_, .int i => .int i
 |_,_, .str x h _ => .str x h
 |_,_, .lst e r _ => .lst (SqL.of e) (DnAll.den r)
 |_,_, .tup e r => .tup (SqT.of e) (DnAll.den r)
theorem DnAll.den {K:PySem.W.Frag}{H:Hp}:∀{vs:List V} {ds:List PyData},DnAll H vs ds->DenAll K H vs ds
 |_,_, .nil => .nil
 |_,_, .cons a b => .cons (Dn.den a) (DnAll.den b)
end
theorem DnAll.len {H:Hp}:∀{vs:List V} {ds:List PyData},DnAll H vs ds->vs.length=ds.length
 |_,_, .nil=>rfl
 |_,_, .cons _ b=>by rw[l8,l8,b.len]
theorem DnAll.get {H:Hp}:∀{vs:List V} {ds:List PyData} {i:Nat} {d:PyData},DnAll H vs ds->ds[i]? = some d->∃v,vs[i]? = some v/\Dn H v d
 |_,_,i,d, .nil,e=>by simp at e
 |_,_,0,d, .cons a b,e=>by cases e;exact⟨_,rfl,a⟩
 |_,_,i+1,d, .cons a b,e=>by
  obtain⟨v,h1,h2⟩:=b.get (i:=i) (by simpa using e)
  exact⟨v,by simpa using h1,h2⟩
theorem DnAll.getV {H:Hp}:∀{vs:List V} {ds:List PyData} {i:Nat} {v:V},DnAll H vs ds->vs[i]? = some v->∃d,ds[i]? = some d/\Dn H v d
 |_,_,i,d, .nil,e=>by simp at e
 |_,_,0,d, .cons a b,e=>by cases e;exact⟨_,rfl,a⟩
 |_,_,i+1,d, .cons a b,e=>by
  obtain⟨v,h1,h2⟩:=b.getV (i:=i) (by simpa using e)
  exact⟨v,by simpa using h1,h2⟩
theorem DnAll.app {H:Hp}:∀{vs us:List V} {ds es:List PyData},DnAll H vs ds->DnAll H us es->DnAll H (vs++us) (ds++es)
 |_,_,_,_, .nil,h=>h
 |_,_,_,_, .cons a b,h => .cons a (b.app h)
theorem DnAll.set {H:Hp}:∀{vs:List V} {ds:List PyData} (n:Nat) {v:V} {d:PyData},DnAll H vs ds->Dn H v d->DnAll H (vs.set n v) (ds.set n d)
 |_,_,_,_,_, .nil,_ => .nil
 |_,_,0,_,_, .cons _ b,h => .cons h b
 |_,_,n+1,_,_, .cons a b,h => .cons a (b.set n h)
def dif (H H':Hp):Hp:=λb=>match H b with |none=>H' b |some _=>none
theorem ar {H H':Hp}{b:Addr}(h:H b=none):dif H H' b=H' b:=by unfold dif;rw[h]
theorem bd {H H':Hp}{b:Addr}(h:H b≠none):dif H H' b=none:=by
 unfold dif
 cases e:H b with
 |none=>exact absurd e h
 |some o=>rfl
theorem ci {H H':Hp}{b:Addr}{o:HO}(h:dif H H' b=some o):H b=none/\H' b=some o:=by
 cases e:H b with
 |none=>rw[ar e] at h;exact⟨rfl,h⟩
 |some o=>rw[bd (by rw[e];simp)] at h;cases h
theorem dif_same {H H':Hp}:Same (dif H H') H':=λb o h=>(ci h).2
theorem bm {H H1 H2 H3:Hp}(a:Same H H1)(b:Same H2 H3):Same (dif H1 H2) (dif H H3):=λc o h=>by
 obtain⟨h1,h2⟩:=ci h
 rw[ar (a.free h1)]
 exact b _ _ h2
theorem Dn.out {H H':Hp}{v:V}{d:PyData}(h:Dn (dif H H') v d):Dn H' v d:=h.same dif_same
def Off (W:Addr->Prop)(H:Hp)(v:V)(d:PyData):Prop:=∃G,Same G H/\(∀b,W b->G b=none)/\Dn G v d
theorem Off.new {W:Addr->Prop}{H H':Hp}{v:V}{d:PyData}(h:Dn (dif H H') v d)(hW:∀b,W b->H b≠none):Off W H' v d:=⟨dif H H',dif_same,λb hb=>bd (hW b hb),h⟩
def Offs (W:Addr->Prop)(H:Hp)(vs:List V)(ds:List PyData):Prop:=∃G,Same G H/\(∀b,W b->G b=none)/\DnAll G vs ds
theorem Offs.sameW {W:Addr->Prop}{H H':Hp}{v:List V}{d:List PyData}(h:Offs W H v d)(s:∀b o,¬ W b->H b=some o->H' b=some o):Offs W H' v d:=
 let ⟨G,a,b,k⟩:=h;⟨G,λc o e=>s c o (λz=>by rw[b c z] at e;cases e) (a c o e),b,k⟩
theorem Offs.same {W:Addr->Prop}{H H':Hp}{v:List V}{d:List PyData}(h:Offs W H v d)(s:Same H H'):Offs W H' v d:=h.sameW λb o _ e=>s b o e
theorem Offs.upd {W:Addr->Prop}{H:Hp}{v:List V}{d:List PyData}{p:Addr}{o:HO}(h:Offs W H v d)(hp:W p):Offs W (L2.upd H p o) v d:=h.sameW λb u n e=>(af (show b≠p from λz=>n (z▸hp))).trans e
def both (G1 G2:Hp):Hp:=λb=>match G1 b with |none=>G2 b |some o=>some o
theorem both_l {G1 G2:Hp}:Same G1 (both G1 G2):=λb o h=>by unfold both;rw[h]
theorem both_r {G1 G2 H:Hp}(a:Same G1 H)(c:Same G2 H):Same G2 (both G1 G2):=λb o h=>by
 unfold both
 cases e:G1 b with
 |none=>exact h
 |some u=>
  have h1:=a _ _ e
  rw[c _ _ h] at h1
  exact h1.symm
theorem pG {G1 G2 H:Hp}(a:Same G1 H)(c:Same G2 H):Same (both G1 G2) H:=λb o h=>by
 unfold both at h
 cases e:G1 b with
 |none=>rw[e] at h;exact c _ _ h
 |some u=>rw[e] at h;cases h;exact a _ _ e
theorem Offs.nil {W:Addr->Prop}{H:Hp}:Offs W H [] []:=⟨λ_=>none,(λ_ _ h=>nomatch h),(λ_ _=>rfl), .nil⟩
theorem Offs.snoc {W:Addr->Prop}{H:Hp}{vs:List V}{ds:List PyData}{v:V}{d:PyData}(h:Offs W H vs ds)(k:Off W H v d):Offs W H (vs++[v]) (ds++[d]):=by
 obtain⟨G1,a1,b1,k1⟩:=h
 obtain⟨G2,a2,b2,k2⟩:=k
 refine⟨both G1 G2,pG a1 a2,λb hb=>?_,(k1.same both_l).app (.cons (k2.same (both_r a1 a2)) .nil)⟩
 unfold both
 rw[b1 b hb]
 exact b2 b hb
theorem Offs.len {W:Addr->Prop}{H:Hp}{vs:List V}{ds:List PyData}(h:Offs W H vs ds):vs.length=ds.length:=let ⟨_,_,_,c⟩:=h;c.len
def tyD:PyData->String
 | .none=>"NoneType"
 | .bool _=>"bool"
 | .int _=>"int"
 | .str _=>"str"
 | .list _=>"list"
 | .tuple _=>"tuple"
 | .dict _=>"dict"
theorem Dn.ty {K:PySem.W.Frag}{H:Hp}{v:V}{d:PyData}:Dn H v d->TyOf K H v (.type (tyD d))
 | .non => .non
 | .bl b => .bl b
 | .int i => .int i
 | .str x h _ => .str x
 | .lst e r _ => .lst e
 | .tup e r => .tup e
theorem pH (K:PySem.W.Frag)(d:PyData):(PySem.W.kitOne K (.type (tyD d)) (.type "str")=some (tyD d=="str"))/\(PySem.W.kitOne K (.type (tyD d)) (.type "list")=some (tyD d=="list"))/\(PySem.W.kitOne K (.type (tyD d)) (.type "tuple")=some (tyD d=="tuple")):=by
 cases d <;> refine⟨?_,?_,?_⟩ <;> with_unfolding_all rfl
section
variable {X:Cx}{k:Nat}{x:Str}{ps:List Str}{sp:Sp}{e:Expr}{p pos:Pos}
section
variable {scope:Scope}{cl:List (Str×Addr)}{C:Addr}{N':List Str}{fp:List Addr}{s:Shared}{H:Hp}{o:Expr}{ta:TE}{t:TA}{m:Str}{apos:Pos}{es:List Expr}
theorem xmV0C {pl:Sem Bool}(he:XE (be X scope cl C N' fp s H) o ta)(hr:Room k X.A)
  (ht : eval (.Call (.Attribute o m apos) [] [] pos) (be X scope cl C N' fp s H).env = (do
   let ov ← eval o (be X scope cl C N' fp s H).env
   standAt apos.atName
   let (f,first) ← holding [ov] (getMethod ov m pl)
   callWith pos f first (backTo pos (starEach [] (be X scope cl C N' fp s H).env)) (backToKw pos (keywordEach [] (be X scope cl C N' fp s H).env))):=by rfl):
  XE (be X scope cl C N' fp s H) (.Call (.Attribute o m apos) [] [] pos) (tMethV X k m ta tNil):=xmV0 (X:=be X scope cl C N' fp s H) (pl:=pl) he hr ht
end
def rIsC (K:PySem.W.Frag):List V->Hp->VK->Prop:=λxs H Q=>∃x t C b,xs=[x, .ref C]/\TyOf K H x t/\PySem.W.kitOne K t (.ref C)=some b/\Q (.bl b) H
theorem call_isC:dW X (.builtin "isinstance") (rIsC X.K):=by
 intro pins s σ H xs us Q I r h
 obtain⟨v,t,C,b,rfl,ht,hk,q⟩:=h
 obtain⟨u,u2,rfl,rx,rv⟩:=r.two
 cases (show u2=Value.ref C from rv)
 exact wpAny_with_toks (n:=1) I.tk (jA I rx ht hk λtk htk=>⟨.bl b,H,I.tok _ htk,rfl,q⟩)
end
end L2
namespace Lw
open PySem L2 Lm PySem.Builtin.Str
inductive P1 where
 |plain (s:Str)
 |code (s:Str)
 |link (w n:Str)
 |note (n:Str)
inductive PC where
 |one (p:P1)
 |strong (ps:List P1)
abbrev eI:Str:="plain"
abbrev i0:Str:="code"
abbrev cA:Str:="strong"
abbrev gD:Str:="link"
abbrev fQ:Str:="note"
def d1:P1->PyData
 | .plain s => .tuple [.str eI, .str s]
 | .code s => .tuple [.str i0, .str s]
 | .link w n => .tuple [.str gD, .str w, .str n]
 | .note n => .tuple [.str fQ, .str n]
def dP:PC->PyData
 | .one p=>d1 p
 | .strong ps => .tuple [.str cA, .list (ps.map d1)]
def one? : PC->Option P1
 | .one p=>some p
 | .strong _=>none
def ones:List PC->List P1:=λps=>ps.filterMap one?
structure Cp where
 Part:Addr
 Plain:Addr
 Code:Addr
 Strong:Addr
 Link:Addr
 Mark:Addr
def StrG (x:Str):Prop:=PyData.strOk x=true/\x.length<=100000
theorem StrG.dn {H:Hp}{x:Str}(h:StrG x):Dn H (.str x) (.str x) := .str x h.1 h.2
def P1At (c:Cp)(H:Hp)(a:Addr):P1->Prop
 | .plain s=>StrG s/\∃dx,H a=some (.ins c.Plain dx [("signs", .str s)])
 | .code s=>StrG s/\∃dx,H a=some (.ins c.Code dx [("signs", .str s)])
 | .link w n=>StrG w/\StrG n/\∃dx,H a=some (.ins c.Link dx [("words", .str w),("name", .str n)])
 | .note n=>StrG n/\∃dx,H a=some (.ins c.Mark dx [("name", .str n)])
def P1s (c:Cp)(H:Hp):List Addr->List P1->Prop
 | [],[]=>True
 |a::as,p::ps=>P1At c H a p/\P1s c H as ps
 |_,_=>False
def PCAt (c:Cp)(H:Hp)(a:Addr):PC->Prop
 | .one p=>P1At c H a p
 | .strong ps=>∃dx l as,H a=some (.ins c.Strong dx [("parts", .ref l)])/\H l=some (.lst (as.map V.ref))/\P1s c H as ps
def PCs (c:Cp)(H:Hp):List Addr->List PC->Prop
 | [],[]=>True
 |a::as,p::ps=>PCAt c H a p/\PCs c H as ps
 |_,_=>False
theorem P1At.same {c:Cp}{H H':Hp}{a:Addr}(s:Same H H'):∀{p:P1},P1At c H a p->P1At c H' a p
 | .plain _,⟨g,dx,e⟩=>⟨g,dx,s _ _ e⟩
 | .code _,⟨g,dx,e⟩=>⟨g,dx,s _ _ e⟩
 | .link _ _,⟨g,g2,dx,e⟩=>⟨g,g2,dx,s _ _ e⟩
 | .note _,⟨g,dx,e⟩=>⟨g,dx,s _ _ e⟩
theorem P1s.same {c:Cp}{H H':Hp}(s:Same H H'):∀{as:List Addr} {ps:List P1},P1s c H as ps->P1s c H' as ps
 | [],[],_=>trivial
 |_::_,_::_,⟨a,b⟩=>⟨a.same s,b.same s⟩
theorem PCAt.same {c:Cp}{H H':Hp}{a:Addr}(s:Same H H'):∀{p:PC},PCAt c H a p->PCAt c H' a p
 | .one _,h=>P1At.same s h
 | .strong _,⟨dx,l,as,e1,e2,r⟩=>⟨dx,l,as,s _ _ e1,s _ _ e2,r.same s⟩
theorem PCs.same {c:Cp}{H H':Hp}(s:Same H H'):∀{as:List Addr} {ps:List PC},PCs c H as ps->PCs c H' as ps
 | [],[],_=>trivial
 |_::_,_::_,⟨a,b⟩=>⟨a.same s,b.same s⟩
theorem PCs.len {c:Cp}{H:Hp}:∀{as:List Addr} {ps:List PC},PCs c H as ps->as.length=ps.length
 | [],[],_=>rfl
 |_::_,_::_,⟨_,b⟩=>by rw[l8,l8,b.len]
theorem P1s.len {c:Cp}{H:Hp}:∀{as:List Addr} {ps:List P1},P1s c H as ps->as.length=ps.length
 | [],[],_=>rfl
 |_::_,_::_,⟨_,b⟩=>by rw[l8,l8,b.len]
theorem PCs.get {c:Cp}{H:Hp}:∀{as:List Addr} {ps:List PC} {i:Nat} {a:Addr},PCs c H as ps->as[i]? = some a->∃p,ps[i]? = some p/\PCAt c H a p
 | [],[],_,_,_,e=>by simp at e
 |_::_,_::_,0,_,⟨h,_⟩,e=>by cases e;exact⟨_,rfl,h⟩
 |_::_,_::_,i+1,_,⟨_,b⟩,e=>by
  obtain⟨p,h1,h2⟩:=b.get (i:=i) (by simpa using e)
  exact⟨p,by simpa using h1,h2⟩
theorem PCs.ones {c:Cp}{H:Hp}:∀{as:List Addr} {ps:List PC},PCs c H as ps->(∀p∈ps,one? p≠none)->P1s c H as (Lw.ones ps)
 | [],[],_,_=>trivial
 |a::as, .one p::ps,⟨h,r⟩,k=>⟨h,r.ones λq hq=>k q (l15 _ hq)⟩
 |a::as, .strong q::ps,⟨h,r⟩,k=>absurd rfl (k (.strong q) l13)
structure Inst (K:PySem.W.Frag)(C:Addr):Prop where
 cls:Cls K C
 ha:PySem.W.findIn K (.ref C) "__class__"=some (some (.builtin "object.__class__"))
 hn:PySem.W.specialIn K (.builtin "object.__class__") "__get__"=some (some (.builtin "getset_descriptor.__get__"))
 htk:PySem.W.takesIn K (.builtin "object.__class__")=some true
 hm:PySem.W.mroIn K C (.type "object")=some true
theorem Inst.ty {K:PySem.W.Frag}{C:Addr}(i:Inst K C){H:Hp}{a dx:Addr}{fs:List (Str×V)}(e:H a=some (.ins C dx fs)):TyOf K H (.ref a) (.ref C) := .ins e i.cls i.ha i.hn i.htk i.hm
end Lw
namespace L2
open PySem PySem.Spec PyProof.Rows
theorem Offs.toDif {H0 H:Hp}{W:Addr->Prop}{vs:List V}{ds:List PyData}(h:Offs W H vs ds)(hW:∀b,H0 b≠none->W b):DnAll (dif H0 H) vs ds:=by
 obtain⟨G,a,b,k⟩:=h
 refine k.same λc o e=>?_
 have:H0 c=none:=Classical.byContradiction λz=>by rw[b c (hW c z)] at e;cases e
 rw[ar this]
 exact a _ _ e
theorem gE {K:PySem.W.Frag}{a:Addr}{xs:List V}{k:Nat}{fr:List Nat}{g:TG}{tt:TT}{te:TE}{σ:St}{H0:Hp}{Q:Addr->Hp->Prop}(f:Nat->PyData)(hx:SqL K H0 a xs)(hl:xs.length<=100000)
  (ht:∀(i:Nat) x,xs[i]? = some x->∀H',Same H0 H'->∀(C:V->Hp->Prop)(N:Hp->Prop),(∀v H4,Same H' H4->Dn (dif H' H4) v (f i)->C v H4) →
   g x (nfS k fr σ) H' λσ2 H2=>nfLe k fr σ σ2/\tt σ2 H2 λb H3=>if b=true then te σ2 H3 C else N H3)
  (hq:∀D H',H0 D=none->Same H0 H'->Dn (dif H0 H') (.ref D) (.list ((List.range xs.length).map f))->Q D H'):rLC k fr g tt te σ (Itl K a) H0 Q:=by
 intro D hD
 refine⟨λi m acc H=>m=xs.length - i/\i<=xs.length/\Same H0 H/\H D=some (.lst acc)/\Offs (λb=>b=D ∨ H0 b≠none) H acc ((List.range i).map f),⟨xs.length,by simp,l14 _,ac hD _,aa, .nil⟩,?_⟩
 rintro i m acc H ⟨rfl,hi,sm,hDa,hof⟩
 refine⟨hDa,?_⟩
 have hal:acc.length=i:=by rw[hof.len,l6,l56]
 by_cases hlt:i < xs.length
 ·refine .inr ⟨⟨xs,xs[i],sm.seq hx,by simp[hlt]⟩,λx H' y=>?_⟩
  obtain⟨e,y⟩:=y
  rw[e]
  refine ht i x (y xs (sm.seq hx)) _ sm _ _ λv H4 s4 dv=>?_
  have o4:Off (λb=>b=D ∨ H0 b≠none) H4 v (f i):=Off.new dv λb hb=>by
   rcases hb with rfl |hb
   ·rw[hDa];simp
   ·cases q:H0 b with
    |none=>exact absurd q hb
    |some o=>rw[sm _ _ q];simp
  refine⟨s4 _ _ hDa,by rw[sizeLine_eq];omega,xs.length - (i+1),by omega,rfl,hlt,au hD (sm.trans s4),aa,?_⟩
  rw[List.range_succ,l16]
  exact((hof.same s4).snoc o4).upd (.inl rfl)
 ·have e:i=xs.length:=by omega
  subst e
  exact .inl ⟨⟨xs,sm.seq hx,l7 _⟩,hq D H hD sm (.lst (by rw[ar hD];exact hDa) (hof.toDif λb hb => .inr hb) (by omega))⟩
end L2
namespace Lw
open PySem L2 Lm
theorem s_no1 {t:TT}{f u:TS}{D:Ends}{σ:St}{H:Hp}(ht:Tells t σ H false)(k:∀H',Same H H'->u D σ H'):tSeq (tIfS t f a9) u D σ H:=s_if false ht (λ_ _ z=>Bool.noConfusion z) (λH' s' _=>k H' s')
theorem t_isT {K:PySem.W.Frag}{σ:St}{H:Hp}{ta:TE}{v:V}{d:PyData}{T:String}{b:Bool}(ev:Ev ta σ H v)(h:Dn H v d)(hb:PySem.W.kitOne K (.type (tyD d)) (.type T)=some b):Tells (tB (tCB (rIsT K) (aE ta (aE (tC (.ty T)) tNil)))) σ H b:=
 λR k=>ev _ ⟨_,_,_,_,rfl,h.ty,hb,_,rfl,k _ (Same.refl _)⟩
theorem lj {σ : St} {H : Hp} {ta tb : TE} {x y : Str} (h1 : Ev ta σ H (.str x)) (h2 : Ev tb σ H (.str y)) : Tells (bH (tOp rEq ta tb)) σ H (decide (x = y)) := fun R k => h1 _ (h2 _ ⟨rfl,_,rfl,by
 rw[show decide (V.str x=V.str y)=decide (x=y) by rw[decide_eq_decide];exact⟨λz=>V.str.inj z,λz=>by rw[z]⟩]
 exact k _ (Same.refl _)⟩)
theorem Dn.lstCase {H:Hp}{v:V}{d:PyData}(h:Dn H v d):(∃a xs ds,v = .ref a/\d = .list ds/\H a=some (.lst xs)/\DnAll H xs ds/\ds.length<=100000) ∨ ((tyD d=="list")=false/\∀ds,d ≠ .list ds):=by
 cases h with
 |lst e r l=>exact .inl ⟨_,_,_,rfl,rfl,e,r,by rw[<- r.len];exact l⟩
 |str x a b=>exact .inr ⟨rfl,λ_ z=>nomatch z⟩
 |non=>exact .inr ⟨rfl,λ_ z=>nomatch z⟩
 |bl _=>exact .inr ⟨rfl,λ_ z=>nomatch z⟩
 |int _=>exact .inr ⟨rfl,λ_ z=>nomatch z⟩
 |tup _ _=>exact .inr ⟨rfl,λ_ z=>nomatch z⟩
theorem P1s.toC {c:Cp}{H:Hp}:∀{as:List Addr} {ps:List P1},P1s c H as ps->PCs c H as (ps.map .one)
 | [],[],_=>trivial
 |_::_,_::_,⟨a,b⟩=>⟨a,b.toC⟩
def cM (c:Cp)(R:PC->Prop):Sp:=λvs H Q _=>∃(l:Addr) (as:List Addr) (ps:List PC),vs=[.ref l]/\H l=some (.lst (as.map V.ref))/\PCs c H as ps/\(∀p∈ps,R p)/\as.length<=100000/\∀r H',Same H H'->Dn (dif H H') (.ref r) (.list (ps.map dP))->Q (.ref r) H'
def dU (c:Cp)(R:PC->Prop):Sp:=λvs H Q _=>∃a p,vs=[.ref a]/\PCAt c H a p/\R p/\∀v H',Same H H'->Dn (dif H H') v (dP p)->Q v H'
def ToldV (P:Program)(w:World)(K:PySem.W.Frag)(mg:Str->Option Value)(base:Heap)(k:Nat)(c:Cp)(R:PC->Prop):Prop:=
 ∀p,R p->∀H a,PCAt c H a p->∃C dx fs sp,H a=some (.ins C dx fs)/\fs.lookup ("told":Str)=none/\MethV P w K mg base k C "told" ["self"] sp/\∀Q E,(∀v H',Same H H'->Dn (dif H H') v (dP p)->Q v H')->sp [.ref a] H Q E
theorem cj {K:PySem.W.Frag}{σ:St}{H:Hp}{ta tb:TE}{p:Addr}{xs:List V}{i:Int}{v:V}(h:Ev ta σ H (.ref p))(hi:Ev tb σ H (.int i))(hq:SqT K H p xs)(e:atI xs i=some v):Ev (tOp (rIxT K) ta tb) σ H v:=λR r=>h _ (hi _ ⟨p,xs,i,v,rfl,rfl,hq,e,r⟩)
theorem jZ {K:PySem.W.Frag}{σ:St}{H:Hp}{ta tb:TE}{p:Addr}{xs:List V}{i:Int}{v:V}(h:Ev ta σ H (.ref p))(hi:Ev tb σ H (.int i))(hq:SqL K H p xs)(e:atI xs i=some v):Ev (tOp (rIxL K) ta tb) σ H v:=λR r=>h _ (hi _ ⟨p,xs,i,v,rfl,rfl,hq,e,r⟩)
theorem t_bv {σ:St}{H:Hp}{ta:TE}{b:Bool}(ev:Ev ta σ H (.bl b)):Tells (tB ta) σ H b:=λR k=>ev _ ⟨_,rfl,k _ (Same.refl _)⟩
theorem Tells.eq {t:TT}{σ:St}{H:Hp}{a b:Bool}(h:Tells t σ H a)(e:a=b):Tells t σ H b:=e▸h
theorem kinds:eI≠i0/\eI≠fQ/\eI≠cA/\i0≠fQ/\i0≠cA/\fQ≠cA/\eI≠gD/\i0≠gD/\fQ≠gD/\cA≠gD:=by decide +kernel
end Lw
namespace K11
open PySem L2 Lm Lw
variable {P:Program}{w:World}{K:PySem.W.Frag}{mg:Str->Option Value}{base:Heap}
abbrev p6:List Str:=["_law_told","_law_lists"]
abbrev p7:List Str:=["_law_script","_law_tape","_law_names_here"]
abbrev p8:List Str:=["_law_script","_law_tape","_law_many"]
abbrev p9:List Str:=["_law_script","_law_tape","_law_names_here","_law_room"]
abbrev p10:List Str:=["self","signs"]
abbrev p11:List Str:=["self","parts"]
abbrev p12:List Str:=["_law_script","_law_tape"]
abbrev p13:List Str:=["_law_script","_law_tape","_law_names_here","_law_room","_law_many"]
abbrev p14:List Str:=["_law_some_here","_law_lists"]
abbrev p15:List Str:=["_law_found","_law_due"]
abbrev p16:List Str:=["_law_block_here","_law_due","_law_held"]
abbrev p17:List Str:=["self","lines"]
abbrev p18:List Str:=["_law_script","_law_tape","_law_names_here","_law_many","_law_is_inner"]
abbrev p19:List Str:=["text","place"]
abbrev p20:List Str:=["entries","ahead"]
abbrev p21:List Str:=["_law_script","_law_tape","_law_size","_law_is_code"]
abbrev p22:List Str:=["_law_script","_law_tape","_law_names_here","_law_many"]
abbrev p23:List Str:=["_law_entries_here","_law_deep"]
abbrev p24:List Str:=["_law_one","_law_lists"]
abbrev p25:List Str:=["_law_block_here","_law_due","_law_order","_law_held"]
abbrev p26:List Str:=["self","words","name"]
abbrev p27:List Str:=["self","name"]
abbrev p28:List Str:=["self","level","parts"]
abbrev p29:List Str:=["self","name","parts"]
abbrev p30:List Str:=["self","name","target"]
abbrev p31:List Str:=["self","blocks"]
abbrev p32:List Str:=["self","entries"]
abbrev p33:List Str:=["self","sign","parts","entries"]
abbrev p34:List Str:=["self","head","sides","lines"]
abbrev p35:List Str:=["_law_script","_law_tape","_law_names_here","_law_before","_law_is_inner"]
abbrev p36:List Str:=["_law_one","_law_other"]
def top (i:Nat):Stmt:=PySem.Challenge.pw_lightmark_k11_blocks_written.main.body.getD i (.Pass ⟨0,0,0,0⟩)
def clsBody (s:Stmt):List Stmt:=match s with
 | .ClassDef _ _ _ b _ _ _ _ _ _ _=>b
 |_=>[]
abbrev meth (i j:Nat):Stmt:=(clsBody (top i)).getD j (.Pass ⟨0,0,0,0⟩)
theorem bt {f u:TS}{D:Ends}{σ:St}{H:Hp}(J:St->Hp->Prop)(h:∀N:St->Hp->Prop,(∀σ' H',J σ' H'->N σ' H')->f { D with nx:=N } σ H) (k:∀σ' H',J σ' H'->u D σ' H'):tSeq f u D σ H:=h (u D) k
structure TxP (K:PySem.W.Frag)(mg:Str->Option Value)(c:Cp)(BT:Addr):Prop where
 n_list:mg "list"=none
 n_len:mg "len"=none
 n_isinstance:mg "isinstance"=none
 n_all:mg "all"=none
 n_str:mg "str"=none
 n_tuple:mg "tuple"=none
 g_NAME_SIGNS:∃t,mg "NAME_SIGNS"=some (.str (S nameSigns) t)
 g_LONGEST_NAME:∃t,mg "LONGEST_NAME"=some (.int 12 t)
 c_BadName:mg "BadName"=some (.ref BT)
 x_BadName:OwnX K BT
 c_Plain:mg "Plain"=some (.ref c.Plain)
 o_Plain:Inst K c.Plain
 o_Code:Inst K c.Code
 o_Strong:Inst K c.Strong
 o_Link:Inst K c.Link
 o_Mark:Inst K c.Mark
 a_Plain:NoAttr K c.Plain "signs"
 a_Code:NoAttr K c.Code "signs"
 a_Strong:NoAttr K c.Strong "parts"
 a_Linkw:NoAttr K c.Link "words"
 a_Linkn:NoAttr K c.Link "name"
 a_Mark:NoAttr K c.Mark "name"
 i_Plain:PySem.W.kitOne K (.ref c.Plain) (.ref c.Plain)=some true
 i_Code:PySem.W.kitOne K (.ref c.Code) (.ref c.Plain)=some false
 i_Strong:PySem.W.kitOne K (.ref c.Strong) (.ref c.Plain)=some false
 i_Link:PySem.W.kitOne K (.ref c.Link) (.ref c.Plain)=some false
 i_Mark:PySem.W.kitOne K (.ref c.Mark) (.ref c.Plain)=some false
section
variable {c:Cp}{BT:Addr}
def cN (C:Addr)(fl:Str):Sp:=λvs H Q _=>∃x dx v,vs=[.ref x,v]/\H x=some (.ins C dx [])/\Q .non (upd H x (.ins C dx [(fl,v)]))
def fE (C:Addr)(fl gl:Str):Sp:=λvs H Q _=>∃x dx v u,vs=[.ref x,v,u]/\H x=some (.ins C dx [])/\Q .non (upd (upd H x (.ins C dx [(fl,v)])) x (.ins C dx [(fl,v),(gl,u)]))
def lm (C:Addr):Sp:=λvs H Q _=>∃x dx l xs,vs=[.ref x, .ref l]/\H x=some (.ins C dx [])/\H l=some (.lst xs)/\∀p,H p=none->Q .non (upd (upd H p (.lst xs)) x (.ins C dx [("parts", .ref p)]))
abbrev dC:Stmt:=meth 4 0
abbrev eJ:Stmt:=meth 5 0
abbrev cO:Stmt:=meth 6 0
abbrev eM:Stmt:=meth 7 0
abbrev eN:Stmt:=meth 8 0
abbrev dF:Stmt:=meth 4 1
abbrev eO:Stmt:=meth 5 1
abbrev cP:Stmt:=meth 6 1
abbrev eQ:Stmt:=meth 7 1
abbrev eR:Stmt:=meth 8 1
theorem lq:FnScope p10 p10 (ad dC):=mkS
theorem nQ:FnScope p10 p10 (ad eJ):=mkS
theorem j5:FnScope p11 p11 (ad cO):=mkS
theorem nR:FnScope p26 p26 (ad eM):=mkS
theorem nS:FnScope p27 p27 (ad eN):=mkS
theorem lr:FnScope ["self"] ["self"] (ad dF):=mkS
theorem nT:FnScope ["self"] ["self"] (ad eO):=mkS
theorem j6:FnScope ["self"] ["self"] (ad cP):=mkS
theorem nU:FnScope ["self"] ["self"] (ad eQ):=mkS
theorem nV:FnScope ["self"] ["self"] (ad eR):=mkS
theorem j7 (F:Fun K "__init__" "Plain.__init__" dC f fd)(T:TxP K mg c BT):FnOk P w K mg base CX0 1 f fd p10 (cN c.Plain "signs"):=by
 have sc:=lq
 refine F.oks sc λcdv A outer s H vs Q E hr h=>?_
 obtain⟨x,dx,v,rfl,e,q⟩:=h
 refine ao (xb1 (aV (xv 0) (xv 1))) ?_
 exact⟨_,rfl,_,rfl,x,_,dx,_,rfl,e,T.o_Plain.cls,T.a_Plain,by decide,q⟩
theorem lu (F:Fun K "__init__" "Code.__init__" eJ f fd)(T:TxP K mg c BT):FnOk P w K mg base CX0 1 f fd p10 (cN c.Code "signs"):=by
 have sc:=nQ
 refine F.oks sc λcdv A outer s H vs Q E hr h=>?_
 obtain⟨x,dx,v,rfl,e,q⟩:=h
 refine ao (xb1 (aV (xv 0) (xv 1))) ?_
 exact⟨_,rfl,_,rfl,x,_,dx,_,rfl,e,T.o_Code.cls,T.a_Code,by decide,q⟩
theorem lw (F:Fun K "__init__" "Mark.__init__" eN f fd)(T:TxP K mg c BT):FnOk P w K mg base CX0 1 f fd p27 (cN c.Mark "name"):=by
 have sc:=nS
 refine F.oks sc λcdv A outer s H vs Q E hr h=>?_
 obtain⟨x,dx,v,rfl,e,q⟩:=h
 refine ao (xb1 (aV (xv 0) (xv 1))) ?_
 exact⟨_,rfl,_,rfl,x,_,dx,_,rfl,e,T.o_Mark.cls,T.a_Mark,by decide,q⟩
theorem lx (F:Fun K "__init__" "Link.__init__" eM f fd)(T:TxP K mg c BT):FnOk P w K mg base CX0 1 f fd p26 (fE c.Link "words" "name"):=by
 have sc:=nR
 refine F.oks sc λcdv A outer s H vs Q E hr h=>?_
 obtain⟨x,dx,v,u,rfl,e,q⟩:=h
 refine ao (xbc (aV (xv 0) (xv 1))
  (xb1 (aV (xv 0) (xv 2)))) ?_
 refine⟨_,rfl,_,rfl,x,_,dx,_,rfl,e,T.o_Link.cls,T.a_Linkw,by decide,?_⟩
 exact⟨_,rfl,_,rfl,x,_,dx,_,rfl,aa,T.o_Link.cls,T.a_Linkn,by show 1 < 1000;decide,q⟩
theorem i3 (F:Fun K "__init__" "Strong.__init__" cO f fd)(T:TxP K mg c BT):FnOk P w K mg base CX0 1 f fd p11 (lm c.Strong):=by
 have sc:=j5
 refine F.oks sc λcdv A outer s H vs Q E hr h=>?_
 obtain⟨x,dx,l,xs,rfl,e,el,q⟩:=h
 refine ao (xb1 (aV (xv 0) (xcTy aA T.n_list rfl (xac (xv 1) xa0)))) ?_
 exact⟨_,rfl,l,_,rfl, .inl (SqL.of el),λp hp=>⟨_,rfl,x,_,dx,_,rfl,ac hp _ _ _ e,T.o_Strong.cls,T.a_Strong,by decide,q p hp⟩⟩
def R1 (p:PC):Prop:=one? p≠none
theorem j8 (F:Fun K "told" "Plain.told" dF f fd)(T:TxP K mg c BT):FnOk P w K mg base CX0 1 f fd ["self"] (dU c λp=>∃s,p = .one (.plain s)):=by
 have sc:=lr
 refine F.oks sc λcdv A outer s H vs Q E hr h=>?_
 obtain⟨a,p,rfl,ha,⟨s,rfl⟩,q⟩:=h
 obtain⟨g,dx,e⟩:=ha
 refine ao (xb1 (xret (xtup (xac xstr (xac (xfld (xv 0)) xa0))))) ?_
 exact⟨_,rfl,a,_,dx,_,_,rfl,e,T.o_Plain.cls,T.a_Plain,rfl,big (show (2:Nat)<=1000000 by decide),λp hp=>q _ _ (ac hp _) (.tup (by rw[ar hp,aa]) (.cons (.str _ (by decide +kernel) (by decide +kernel)) (.cons g.dn .nil)))⟩
theorem ly (F:Fun K "told" "Code.told" eO f fd)(T:TxP K mg c BT):FnOk P w K mg base CX0 1 f fd ["self"] (dU c λp=>∃s,p = .one (.code s)):=by
 have sc:=nT
 refine F.oks sc λcdv A outer s H vs Q E hr h=>?_
 obtain⟨a,p,rfl,ha,⟨s,rfl⟩,q⟩:=h
 obtain⟨g,dx,e⟩:=ha
 refine ao (xb1 (xret (xtup (xac xstr (xac (xfld (xv 0)) xa0))))) ?_
 exact⟨_,rfl,a,_,dx,_,_,rfl,e,T.o_Code.cls,T.a_Code,rfl,big (show (2:Nat)<=1000000 by decide),λp hp=>q _ _ (ac hp _) (.tup (by rw[ar hp,aa]) (.cons (.str _ (by decide +kernel) (by decide +kernel)) (.cons g.dn .nil)))⟩
theorem lz (F:Fun K "told" "Mark.told" eR f fd)(T:TxP K mg c BT):FnOk P w K mg base CX0 1 f fd ["self"] (dU c λp=>∃s,p = .one (.note s)):=by
 have sc:=nV
 refine F.oks sc λcdv A outer s H vs Q E hr h=>?_
 obtain⟨a,p,rfl,ha,⟨s,rfl⟩,q⟩:=h
 obtain⟨g,dx,e⟩:=ha
 refine ao (xb1 (xret (xtup (xac xstr (xac (xfld (xv 0)) xa0))))) ?_
 exact⟨_,rfl,a,_,dx,_,_,rfl,e,T.o_Mark.cls,T.a_Mark,rfl,big (show (2:Nat)<=1000000 by decide),λp hp=>q _ _ (ac hp _) (.tup (by rw[ar hp,aa]) (.cons (.str _ (by decide +kernel) (by decide +kernel)) (.cons g.dn .nil)))⟩
theorem lA (F:Fun K "told" "Link.told" eQ f fd)(T:TxP K mg c BT):FnOk P w K mg base CX0 1 f fd ["self"] (dU c λp=>∃s n,p = .one (.link s n)):=by
 have sc:=nU
 refine F.oks sc λcdv A outer s H vs Q E hr h=>?_
 obtain⟨a,p,rfl,ha,⟨s,n,rfl⟩,q⟩:=h
 obtain⟨g,g2,dx,e⟩:=ha
 refine ao (xb1 (xret (xtup (xac xstr (xac (xfld (xv 0)) (xac (xfld (xv 0)) xa0)))))) ?_
 exact⟨_,rfl,a,_,dx,_,_,rfl,e,T.o_Link.cls,T.a_Linkw,rfl,_,rfl,a,_,dx,_,_,rfl,e,T.o_Link.cls,T.a_Linkn,rfl,big (show (3:Nat)<=1000000 by decide),λp hp=>q _ _ (ac hp _) (.tup (by rw[ar hp,aa]) (.cons (.str _ (by decide +kernel) (by decide +kernel)) (.cons g.dn (.cons g2.dn .nil))))⟩
abbrev pI:Stmt:=top 10
theorem scTolds:FnScope ["parts"] ["parts"] (ad pI):=mkS
theorem nW (ps:List PC):(List.range ps.length).map (λi=>dP (ps.getD i (.one (.note ""))))=ps.map dP:=by
 apply List.ext_getElem?
 intro i
 rw[List.getElem?_map,List.getElem?_map]
 by_cases hi:i < ps.length
 ·rw[List.getElem?_range hi,List.getElem?_eq_getElem hi]
  simp only[Option.map_some,l39,List.getElem?_eq_getElem hi,Option.getD_some]
 ·rw[List.getElem?_eq_none (by rw[l56];omega),List.getElem?_eq_none (by omega)]
  rfl
theorem mG {k:Nat}{R:PC->Prop}(F:Fun K "told_parts" "told_parts" pI f fd)(hM:ToldV P w K mg base k c R):FnOk P w K mg base CX0 (k+1) f fd ["parts"] (cM c R):=by
 have sc:=scTolds
 refine F.oks sc λcdv A outer s H vs Q E hr h=>?_
 obtain⟨l,as,ps,rfl,el,hps,hR,hl,q⟩:=h
 refine ao (xb1 (xret (xlc (cl:=[]) (own:=["part"]) (fr:=[]) (N':=["part"]) rfl (bw (xs:=[]) trivial trivial (by decide +kernel)) (by decide +kernel) (by decide +kernel) (by with_unfolding_all rfl)
  (xil (xv 0))
  (λ_ _ _ _=>xgn (i:=0) (show (["part"]:List Str).Nodup by decide +kernel) rfl (Or.inl rfl)) (λ_ _ _ _=>xq0) (λ_ _ _ _=>(xmV0C (k:=k) (xv 0) (hr.mono (by omega))))))) ?_
 refine⟨_,rfl,l,rfl,⟨_,SqL.of el⟩,?_⟩
 have hlen:=hps.len
 refine gE (λi=>dP (ps.getD i (.one (.note "")))) (SqL.of el) (by rw[l6];exact hl) ?_ ?_
 ·intro i x hx H2 s2 C N hC
  rw[List.getElem?_map] at hx
  cases hai:as[i]? with
  |none=>rw[hai] at hx;cases hx
  |some a=>
  rw[hai] at hx
  cases hx
  obtain⟨p,hp1,hp2⟩:=hps.get hai
  obtain⟨Cc,dx,fs,sp,e1,e2,V,hsp⟩:=hM p (hR p (l17 hp1)) H2 a (hp2.same s2)
  refine⟨(nfLe.refl _ _ _).set (by decide) _,iteT (B:=N H2) ⟨_,rfl,a,Cc,dx,fs,_,sp,rfl,e1,e2,V,hsp _ _ λv H4 s4 d4=>hC v H4 s4 ?_⟩⟩
  rw[l39,hp1]
  exact d4
 ·intro D H2 hD s2 dD
  refine q D H2 s2 ?_
  rw[l6,hlen,nW] at dD
  exact dD
theorem i4 {k:Nat}(F:Fun K "told" "Strong.told" cP f fd)(T:TxP K mg c BT)(D_told_parts:Def P w K mg base k "told_parts" ["parts"] (cM c R1)):FnOk P w K mg base CX0 (k+1) f fd ["self"] (dU c λp=>∃ps,p = .strong ps/\ps.length<=100000):=by
 have sc:=j6
 refine F.oks sc λcdv A outer s H vs Q E hr h=>?_
 obtain⟨a,p,rfl,ha,⟨ps,rfl,hpl⟩,q⟩:=h
 obtain⟨dx,l,as,e,el,hps⟩:=ha
 refine ao (xb1 (xret (xtup (xac xstr (xac (xcd D_told_parts hr (xac (xfld (xv 0)) xa0)) xa0))))) ?_
 refine⟨_,rfl,a,_,dx,_,_,rfl,e,T.o_Strong.cls,T.a_Strong,rfl,l,as,ps.map .one,rfl,el,hps.toC,λp hp=>?_,by rw[hps.len];exact hpl,λr H1 s1 d1'=>⟨big (show (2:Nat)<=1000000 by decide),λt ht=>q _ _ (s1.trans (ac ht _)) ?_⟩⟩
 ·obtain⟨x,_,rfl⟩:=l32.mp hp
  unfold R1
  simp[one?]
 ·refine .tup (by rw[ar (s1.free ht),aa]) (.cons (.str _ (by decide +kernel) (by decide +kernel)) (.cons ?_ .nil))
  have:=d1'.same (bm (Same.refl H) (ac ht (.tup [V.str "strong", .ref r])))
  rw[l28] at this
  exact this
end
end K11
namespace Lm
def escC (l:List Nat):List Nat:=bx [92,124] (aQ 124 l)
def d9 (l:List Nat):Bool := !(l.takeWhile ([45]:List Nat).contains).isEmpty&&(l.dropWhile ([45]:List Nat).contains==[]||l.dropWhile ([45]:List Nat).contains==[58])
def lB (l:List Nat):List Nat:=if l.getLast? = some 58 then l.dropLast else l
theorem mH (l:List Nat):d9 l=true ↔ lB l≠[]/\∀c∈lB l,c=45:=by
 have sp:l.takeWhile ([45]:List Nat).contains++l.dropWhile ([45]:List Nat).contains=l:=l57
 have tw:∀c∈l.takeWhile ([45]:List Nat).contains,c=45:=by
  intro c hc
  have:=List.all_takeWhile (p:=([45]:List Nat).contains) (l:=l)
  have:=l47.mp this c hc
  simpa using this
 have dh:∀y t,l.dropWhile ([45]:List Nat).contains=y::t->y≠45:=by
  intro y t e hy
  have:=List.head?_dropWhile_not ([45]:List Nat).contains l
  rw[e] at this
  simp[hy] at this
 have hr:d9 l=true ↔ l.takeWhile ([45]:List Nat).contains≠[]/\(l.dropWhile ([45]:List Nat).contains=[] ∨ l.dropWhile ([45]:List Nat).contains=[58]):=by
  unfold d9
  simp
 rw[hr]
 generalize l.takeWhile ([45]:List Nat).contains=a at *
 generalize l.dropWhile ([45]:List Nat).contains=b at *
 subst sp
 unfold lB
 have ha:∀x,a.getLast? = some x->x=45:=λx hx=>tw x (List.mem_of_getLast? hx)
 cases b with
 |nil=>
  rw[l31,if_neg (λz=>by have:=ha _ z;omega)]
  exact⟨λh=>⟨h.1,tw⟩,λh=>⟨h.1, .inl rfl⟩⟩
 |cons y t=>
  have hy:=dh y t rfl
  cases t with
  |nil=>
   rw[show (a++[y]).getLast? = some y from List.getLast?_concat]
   by_cases h:y=58
   ·subst h
    rw[if_pos (by rfl),List.dropLast_concat]
    exact⟨λh=>⟨h.1,tw⟩,λh=>⟨h.1, .inr rfl⟩⟩
   ·rw[if_neg (by simpa using h)]
    constructor
    ·rintro⟨_,h1 |h1⟩
     ·cases h1
     ·exact absurd (by simpa using h1) h
    ·rintro⟨_,h2⟩
     exact absurd (h2 y (by simp)) hy
  |cons z t=>
   constructor
   ·rintro⟨_,h1 |h1⟩
    ·cases h1
    ·simp at h1
   ·rintro⟨_,h2⟩
    exfalso
    apply hy
    apply h2
    split
    ·rw[List.dropLast_append_of_ne_nil (by simp)]
     simp
    ·simp
end Lm
namespace Lm
open PySem Builtin.Str
theorem ends_S (l:List Nat)(c:Nat):Txt.endswith (S l) (S [c])=decide (l.getLast? = some c):=by
 unfold Txt.endswith
 rw[kY,am,am,l66]
 rw[Bool.eq_iff_iff,Bool.and_eq_true,decide_eq_true_iff,decide_eq_true_iff,decide_eq_true_iff]
 rcases l68 l with rfl |⟨q,x,rfl⟩
 ·simp
 ·rw[l82,List.getLast?_concat,l5]
  show q.length+1 ≥ 1/\((q++[x]).drop (q.length+1 - 1)).take 1=[c] ↔ _
  rw[l69,List.drop_left]
  simp
theorem all45 (d:List Nat):d.dropWhile ([45]:List Nat).contains=[] ↔ ∀c∈d,c=45:=by
 induction d with
 |nil=>simp
 |cons x r ih=>
  by_cases h:x=45
  ·subst h
   rw[List.dropWhile_cons_of_pos (by simp),ih]
   simp
  ·rw[List.dropWhile_cons_of_neg (by simpa using h)]
   simp[h]
theorem pJ (d:List Nat):Txt.stripChars (S d) (S [45])=S [] ↔ ∀c∈d,c=45:=by
 have e:(S [45]).cps.contains=([45]:List Nat).contains:=by funext c;simp
 have tl:=congrArg List.length (l57 (p:=([45]:List Nat).contains) (l:=d))
 rw[l5] at tl
 have hd:d.drop (d.takeWhile ([45]:List Nat).contains).length=d.dropWhile ([45]:List Nat).contains:=by
  conv=>lhs;arg 2;rw[<- l57 (p:=([45]:List Nat).contains) (l:=d)]
  rw[List.drop_left]
 unfold Txt.stripChars Txt.stripBy
 rw[e]
 have h0:stripLo ([45]:List Nat).contains true (S d)=(d.takeWhile ([45]:List Nat).contains).length:=by simp[stripLo]
 have h1:stripHi ([45]:List Nat).contains true (S d) (d.takeWhile ([45]:List Nat).contains).length=d.length - ((d.dropWhile ([45]:List Nat).contains).reverse.takeWhile ([45]:List Nat).contains).length:=by
  unfold stripHi
  rw[if_pos rfl,am,ek,hd]
 have hz:((d.dropWhile ([45]:List Nat).contains).reverse.takeWhile ([45]:List Nat).contains).length<=(d.dropWhile ([45]:List Nat).contains).length:=by
  have:=(List.takeWhile_sublist (p:=([45]:List Nat).contains) (l:=(d.dropWhile ([45]:List Nat).contains).reverse)).length_le
  rw[l81] at this
  exact this
 constructor
 ·intro h
  rw[<- all45]
  split at h
  ·have:=hZ h
   rw[this];rfl
  ·rw[stripped,h0,h1] at h
   have h:=congrArg (λx:Str=>x.cps.size) h
   unfold strSub at h
   simp only[Array.size_extract,l27,l23] at h
   rcases l68 (d.dropWhile ([45]:List Nat).contains) with q |⟨a,x,q⟩
   ·exact q
   ·exfalso
    have hne:d.dropWhile ([45]:List Nat).contains≠[]:=by rw[q];simp
    have hlt:((d.dropWhile ([45]:List Nat).contains).reverse.takeWhile ([45]:List Nat).contains).length < (d.dropWhile ([45]:List Nat).contains).length:=by
     refine Nat.lt_of_le_of_ne hz λz=>?_
     have hall:(d.dropWhile ([45]:List Nat).contains).reverse.takeWhile ([45]:List Nat).contains=(d.dropWhile ([45]:List Nat).contains).reverse:=
      (List.takeWhile_sublist (p:=([45]:List Nat).contains)).eq_of_length (by rw[z,l81])
     cases hw:d.dropWhile ([45]:List Nat).contains with
     |nil=>exact hne hw
     |cons y t=>
      have hy:y∈(d.dropWhile ([45]:List Nat).contains).reverse:=by rw[hw];simp
      rw[<- hall] at hy
      have y1:=pd hy
      have y2:=lc hw
      rw[y1] at y2
      cases y2
    omega
 ·intro h
  have q:=(all45 d).mpr h
  have tl':(d.takeWhile ([45]:List Nat).contains).length=d.length:=by rw[q] at tl;simpa using tl
  split
  ·rename_i hs
   rw[stripSame,h0,tl'] at hs
   rw[Bool.and_eq_true,beq_iff_eq] at hs
   rw[l89 hs.1]
  ·rw[stripped,h0,h1,q]
   unfold strSub
   rw[tl']
   simp
end Lm
namespace L2
open PySem PySem.Spec PyProof.Rows
theorem op_mulB {X:Cx}:OpR X (binaryOp .Mult) (rI IntMulOk λi j => .int (i * j)):=opI λ_ _ _ _ _ _ _ hc q=>mul_int q hc
end L2
namespace Lm
open PySem PySem.Builtin PySem.Builtin.Str PySem.StrLaws
end Lm
namespace Lw
open PySem L2 Lm PySem.Builtin.Str
def kd1:P1->Str
 | .plain _=>eI
 | .code _=>i0
 | .link _ _=>gD
 | .note _=>fQ
def kdP:PC->Str
 | .one p=>kd1 p
 | .strong _=>cA
theorem mI:∀ps:List P1,ones (ps.map PC.one)=ps
 | []=>rfl
 |p::ps=>by
  have:=mI ps
  unfold ones at this ⊢
  rw[l19,l75,one?,this]
end Lw
namespace Lw
open PySem L2 Lm
end Lw
namespace L2
open PySem PySem.Spec PyProof.Rows
open Builtin Builtin.Str
end L2
namespace Lm
open PySem L2 Lw Builtin Builtin.Str
end Lm
namespace Lw
open PySem L2 Lm
theorem c8 {l:List Nat}(h:Asc l)(hl:l.length<=100000):StrG (S l):=⟨strOk_S h,by rw[am];exact hl⟩
theorem made1 {H H1:Hp}{x dx C:Addr}{o:HO}(s:Same H H1)(hx:H1 x=none)(hdx:H1 dx=none):Same H (upd (upd (upd H1 dx (.own x)) x (.ins C dx [])) x o)/\dif H (upd (upd (upd H1 dx (.own x)) x (.ins C dx [])) x o) x=some o:=
 ⟨au (s.free hx) (au (s.free hx) (au (s.free hdx) s)),by rw[ar (s.free hx)];exact aa⟩
theorem made2 {H H1:Hp}{x dx C:Addr}{o1 o:HO}(s:Same H H1)(hx:H1 x=none)(hdx:H1 dx=none):Same H (upd (upd (upd (upd H1 dx (.own x)) x (.ins C dx [])) x o1) x o)/\dif H (upd (upd (upd (upd H1 dx (.own x)) x (.ins C dx [])) x o1) x o) x=some o:=
 ⟨au (s.free hx) (au (s.free hx) (au (s.free hx) (au (s.free hdx) s))),by rw[ar (s.free hx)];exact aa⟩
def Mo (R:Hp->Prop):Prop:=∀G G',Same G G'->R G->R G'
def NewQ (H:Hp)(W:List Addr)(H':Hp)(R:Hp->Prop):Prop:=∃G,Same G H'/\(∀b∈W,G b=none)/\(∀b,H b≠none->G b=none)/\R G
section
variable {H H' H3 H4:Hp}{W:List Addr}{R R2 R':Hp->Prop}
theorem NewQ.same (h:NewQ H W H' R)(s:Same H' H4):NewQ H W H4 R:=let ⟨G,a,b,d,e⟩:=h;⟨G,a.trans s,b,d,e⟩
theorem NewQ.upd {p:Addr}{o:HO}(h:NewQ H W H' R)(hp:p∈W):NewQ H W (L2.upd H' p o) R:=
 let ⟨G,a,b,d,e⟩:=h
 ⟨G,λx u z=>(af (λy=>by rw[y,b p hp] at z;cases z)).trans (a x u z),b,d,e⟩
theorem NewQ.dif (h:NewQ H W H' R)(m:Mo R):R (dif H H'):=
 let ⟨G,a,_,d,e⟩:=h
 m G _ (λx u z=>by
  have hx:H x=none:=by
   cases q:H x with
   |none=>rfl
   |some o=>rw[d x (by rw[q];simp)] at z;cases z
  rw[ar hx]
  exact a x u z) e
theorem NewQ.join (h:NewQ H W H' R)(h2:NewQ H W H' R2)(m:Mo R)(m2:Mo R2)(k:∀G,R G->R2 G->R' G):NewQ H W H' R':=
 let ⟨G,a,b,d,e⟩:=h
 let ⟨G2,a2,b2,d2,e2⟩:=h2
 ⟨both G G2,pG a a2,λx hx=>by unfold both;rw[b x hx];exact b2 x hx,λx hx=>by unfold both;rw[d x hx];exact d2 x hx,k _ (m _ _ both_l e) (m2 _ _ (both_r a a2) e2)⟩
theorem NewQ.of (s:Same H H3)(hW:∀b∈W,H3 b≠none)(h:R (L2.dif H3 H4)):NewQ H W H4 R:=⟨L2.dif H3 H4,dif_same,λb hb=>bd (hW b hb),λb hb=>bd (λz=>hb (s.free z)),h⟩
theorem NewQ.triv (h:R λ_=>none):NewQ H W H' R:=⟨λ_=>none,(λ_ _ z=>nomatch z),(λ_ _=>rfl),(λ_ _=>rfl),h⟩
end
theorem mo_PC {c:Cp}{a:Addr}{p:PC}:Mo λG=>PCAt c G a p:=λ_ _ s h=>h.same s
theorem NewQ.map {H H':Hp}{W:List Addr}{R R':Hp->Prop}(h:NewQ H W H' R)(k:∀G,R G->R' G):NewQ H W H' R':=let ⟨G,a,b,d,e⟩:=h;⟨G,a,b,d,k G e⟩
theorem cI:∀l:List (List Nat),bx [] l=l.flatten
 | []=>rfl
 | [c]=>by show c=c++[];rw[l31]
 |c::d::r=>by
  have ih:=cI (d::r)
  rw[fw _ _ _ (by simp),ih,l31]
  simp
theorem eT (l:List (List Nat))(h:l.flatten.length<=100000):(((l.map S).map (·.length)).sum+(l.map S).length * (S []).length)<=sizeLine:=by
 have e:((l.map S).map (·.length)).sum=l.flatten.length:=by
  clear h
  induction l with
  |nil=>rfl
  |cons x l ih=>rw[l19,l19,l35,ih,am,l50,l5]
 rw[e,am,sizeLine_eq]
 simp only[l23,Nat.mul_zero]
 omega
theorem c9 {v:V}{i:Nat}{u:TS}{D:Ends}{σ:St}{H:Hp}(h:u D (σ.set i (some v)) H):tSeq (tAsg (tC v) (av i)) u D σ H:=h
end Lw
namespace L2
open PySem PySem.Spec PyProof.Rows
end L2
namespace Lw
open PySem L2 Lm
end Lw
namespace L2
open PySem PySem.Spec PyProof.Rows
end L2
namespace Lw
open PySem L2 Lm
theorem ed {n:Nat}:∀{ds:List PyData},(∀d∈ds,d.depth<=n)->PyData.depthAll ds<=n
 | [],_=>by unfold PyData.depthAll;omega
 |d::ds,h=>by
  have h1:=h d l13
  have h2:=ed λx hx=>h x (l15 _ hx)
  unfold PyData.depthAll
  omega
theorem iD {n:Nat}{ds:List PyData}(h:∀d∈ds,d.depth<=n):(PyData.list ds).depth<=n+1:=by
 have:=ed h
 unfold PyData.depth
 omega
theorem gF {n:Nat}{ds:List PyData}(h:∀d∈ds,d.depth<=n):(PyData.tuple ds).depth<=n+1:=by
 have:=ed h
 unfold PyData.depth
 omega
def sz1:P1->Nat
 | .plain s=>s.cps.toList.length
 | .code s=>s.cps.toList.length+2
 | .link w n=>w.cps.toList.length+n.cps.toList.length+20
 | .note n=>n.cps.toList.length+20
def szC:PC->Nat
 | .one p=>sz1 p
 | .strong ps=>(ps.map sz1).sum+2
def Ok1:P1->Prop
 | .plain s=>Asc s.cps.toList/\s.cps.toList≠[]
 | .code s=>Asc s.cps.toList
 | .link w n=>Asc w.cps.toList/\Asc n.cps.toList
 | .note n=>Asc n.cps.toList
def OkC:PC->Prop
 | .one p=>Ok1 p
 | .strong ps=>∀p∈ps,Ok1 p
def R2:PC->Prop
 | .one _=>True
 | .strong ps=>ps.length<=100000
theorem pK {p:P1}(h:Ok1 p):1<=sz1 p:=by
 cases p with
 |plain s=>
  have:s.cps.toList≠[]:=h.2
  show 1<=s.cps.toList.length
  cases e:s.cps.toList with
  |nil=>exact absurd e this
  |cons _ _=>simp
 |code s=>show 1<=_+2;omega
 |link a b=>show 1<=_+20;omega
 |note s=>show 1<=_+20;omega
theorem len_sz1 {l:List P1}(h:∀p∈l,Ok1 p):l.length<=(l.map sz1).sum:=by
 induction l with
 |nil=>exact l7 0
 |cons p l ih=>
  have h1:=ih λq hq=>h q (l15 _ hq)
  have h2:=pK (h p l13)
  rw[l19,l35,l8]
  omega
theorem mem_szC {l:List PC}{p:PC}(h:p∈l):szC p<=(l.map szC).sum:=by
 induction l with
 |nil=>cases h
 |cons q l ih=>
  rw[l19,l35]
  rcases l9.mp h with z |z
  ·rw[z];omega
  ·have:=ih z;omega
theorem r2_of {l:List PC}(h:∀p∈l,OkC p)(hs:(l.map szC).sum<=90000):∀p∈l,R2 p:=λp hp=>by
 have h1:=mem_szC hp
 have h2:=h p hp
 cases p with
 |one q=>trivial
 |strong q=>
  have h3:=len_sz1 h2
  have h4:szC (.strong q)=(q.map sz1).sum+2:=rfl
  show q.length<=100000
  omega
def escC:List Nat:=[92,42,96,91,93]
def grd (c:Nat):List Nat:=if escC.contains c then [92,c] else [c]
def aR (l:List Nat):List Nat:=l.flatMap grd
theorem iE (c:Nat)(l:List Nat):aR (c::l)=grd c++aR l:=l59
def bn (w:List Nat):List Nat:=if w.head? = some 94 then [92] else []
def raw1:P1->List Nat
 | .plain s=>aR s.cps.toList
 | .code s=>[96]++s.cps.toList++[96]
 | .link w n=>[91]++bn w.cps.toList++aR w.cps.toList++[93,40]++n.cps.toList++[41]
 | .note n=>[91,94]++n.cps.toList++[93]
def cY:PC->Bool
 | .one (.note _)=>true
 |_=>false
def aK (b:Bool)(t:List Nat):List Nat:=if b&&decide (t.head? = some 58) then 92::t else t
def de:Bool->List P1->List Nat
 |_,[]=>[]
 |b,p::r=>aK b (raw1 p)++de (cY (.one p)) r
def rawP:PC->List Nat
 | .one p=>raw1 p
 | .strong ps=>[42]++de false ps++[42]
def raws:Bool->List PC->List Nat
 |_,[]=>[]
 |b,p::r=>aK b (rawP p)++raws (cY p) r
theorem eV:∀(b:Bool) (ps:List P1),raws b (ps.map .one)=de b ps
 |_,[]=>rfl
 |b,p::r=>by show aK b (raw1 p)++raws _ (r.map .one)=_;rw[eV _ r];rfl
def i5:Bool->List PC->List (List Nat)
 |_,[]=>[]
 |b,p::r=>aK b (rawP p)::i5 (cY p) r
theorem fF:∀(b:Bool) (ps:List PC),(i5 b ps).flatten=raws b ps
 |_,[]=>rfl
 |b,p::r=>by show aK b (rawP p)++(i5 _ r).flatten=_;rw[fF _ r];rfl
theorem mJ (b:Bool)(t:List Nat):t.length<=(aK b t).length/\(aK b t).length<=t.length+1:=by
 unfold aK
 split
 ·rw[l8];omega
 ·omega
theorem pL {b:Bool}{ps:List PC}{p:PC}(h:p∈ps):(rawP p).length<=(raws b ps).length:=by
 induction ps generalizing b with
 |nil=>cases h
 |cons q r ih=>
  show _<=(aK b (rawP q)++raws _ r).length
  rw[l5]
  rcases l9.mp h with z |z
  ·rw[z];have:=(mJ b (rawP q)).1;omega
  ·have:=ih (b:=cY q) z;omega
theorem mK (l:List Nat):l.length<=(aR l).length:=by
 induction l with
 |nil=>exact l7 0
 |cons c l ih=>
  rw[iE,l5,l8]
  have:1<=(grd c).length:=by unfold grd;split <;> simp
  omega
def h8 (c:Cp)(R:PC->Prop):Sp:=λvs H Q _=>∃a p,vs=[.ref a]/\PCAt c H a p/\R p/\(rawP p).length<=100000/\∀H',Same H H'->Q (vS (rawP p)) H'
def eY (c:Cp)(R:PC->Prop):Sp:=λvs H Q _=>∃(l:Addr) (as:List Addr) (ps:List PC),vs=[.ref l]/\H l=some (.lst (as.map V.ref))/\PCs c H as ps/\(∀p∈ps,R p)/\as.length<=100000/\(raws false ps).length<=100000/\∀H',Same H H'->Q (vS (raws false ps)) H'
def RawV (P:Program)(w:World)(K:PySem.W.Frag)(mg:Str->Option Value)(base:Heap)(k:Nat)(c:Cp)(R:PC->Prop):Prop:=
 ∀p,R p->(rawP p).length<=100000->∀H a,PCAt c H a p->∃C dx fs sp,H a=some (.ins C dx fs)/\fs.lookup ("raw":Str)=none/\MethV P w K mg base k C "raw" ["self"] sp/\∀Q E,(∀H',Same H H'->Q (vS (rawP p)) H')->sp [.ref a] H Q E
end Lw
namespace K11
open PySem L2 Lm Lw
structure TxR (K:PySem.W.Frag)(mg:Str->Option Value)(c:Cp)(BT:Addr):Prop extends TxP K mg c BT where
 g_ESCAPED:∃t,mg "ESCAPED"=some (.str (S escC) t)
 c_Mark:mg "Mark"=some (.ref c.Mark)
 m_Plain:PySem.W.kitOne K (.ref c.Plain) (.ref c.Mark)=some false
 m_Code:PySem.W.kitOne K (.ref c.Code) (.ref c.Mark)=some false
 m_Strong:PySem.W.kitOne K (.ref c.Strong) (.ref c.Mark)=some false
 m_Link:PySem.W.kitOne K (.ref c.Link) (.ref c.Mark)=some false
 m_Mark:PySem.W.kitOne K (.ref c.Mark) (.ref c.Mark)=some true
theorem TxR.isMark {K:PySem.W.Frag}{mg:Str->Option Value}{c:Cp}{BT:Addr}(T:TxR K mg c BT){H:Hp}{a:Addr}:∀{p:PC},PCAt c H a p->∃t,TyOf K H (.ref a) t/\PySem.W.kitOne K t (.ref c.Mark)=some (cY p)
 | .one (.plain _),⟨_,_,e⟩=>⟨_,T.o_Plain.ty e,T.m_Plain⟩
 | .one (.code _),⟨_,_,e⟩=>⟨_,T.o_Code.ty e,T.m_Code⟩
 | .one (.link _ _),⟨_,_,_,e⟩=>⟨_,T.o_Link.ty e,T.m_Link⟩
 | .one (.note _),⟨_,_,e⟩=>⟨_,T.o_Mark.ty e,T.m_Mark⟩
 | .strong _,⟨_,_,_,e,_⟩=>⟨_,T.o_Strong.ty e,T.m_Strong⟩
theorem pM (x:Str):x.length=x.cps.toList.length:=by conv=>lhs;rw[<- S_of x,am]
section
variable {c:Cp}{BT:Addr}
abbrev i6:Stmt:=top 9
theorem pN:FnScope ["signs"] ["signs"] (ad i6):=mkS
def dg:Sp:=λvs H Q _=>∃l:List Nat,vs=[vS l]/\l.length<=100000/\(aR l).length<=100000/\∀H',Same H H'->Q (vS (aR l)) H'
def grdV:V->V
 | .str x=>vS (aR x.cps.toList)
 |v=>v
theorem mL (d:Nat):grdV (.str ⟨#[d]⟩)=vS (grd d):=by
 show vS (aR [d])=_
 rw[iE]
 exact congrArg vS (l31 _)
theorem iF (l:List Nat):(l.map grd).flatten=aR l:=(List.flatMap_def (l:=l) (f:=grd)).symm
theorem nX (F:Fun K "escaped" "escaped" i6 f fd)(T:TxR K mg c BT):FnOk P w K mg base CX0 1 f fd ["signs"] dg:=by
 have sc:=pN
 refine F.oks sc λcdv A outer s H vs Q E hr h=>?_
 obtain⟨l,rfl,hl,hg,q⟩:=h
 refine ao (xb1 (xret (xm PySem.F.plainAttrs_str PySem.F.slot_str_join PySem.F.type_str_join dX xstr (xac (xlc (cl:=[]) (own:=["sign"]) (fr:=[]) (N':=["sign"]) rfl (bw (xs:=[]) trivial trivial (by decide +kernel)) (by decide +kernel) (by decide +kernel) (by with_unfolding_all rfl)
  (xis (xv 0))
  (λ_ _ _ _=>xgn (i:=0) (show (["sign"]:List Str).Nodup by decide +kernel) rfl (Or.inl rfl)) (λ_ _ _ _=>xq0) (λ_ _ _ _=>(xifE (aw f8 (xv 0) (xgS T.g_ESCAPED) (by with_unfolding_all rfl)) (xop ae xstr (xv 0)) (xv 0)))) xa0)))) ?_
 have hs:sizeLine=16777216:=sizeLine_eq
 refine⟨rfl,_,rfl,_,rfl,?_⟩
 refine lc_str (λ_=>true) grdV (bigS (by omega)) ?_ ?_
 ·intro d hd H' sm C N hC hN
  refine⟨(nfLe.refl _ _ _).set (by decide) _,iteT (B:=N H') ?_⟩
  have hc:=hC H' (Same.refl H') rfl
  rw[mL] at hc
  refine⟨_,rfl,_,_,rfl,rfl,_,rfl,?_⟩
  rw[show (!(Builtin.Str.occurrences (S escC) (S [d]) 0 (S escC).length 1).isEmpty)=escC.contains d from fA _ _]
  unfold grd at hc
  by_cases z:escC.contains d=true
  ·rw[if_pos z] at hc
   rw[z]
   refine iteT ⟨_,rfl,_,_,rfl,rfl,(show 1+1<=sizeLine by rw[hs];decide),?_⟩
   rw[show Str.ofString "\\"++S [d]=S [92,d] from bb [92] [d]]
   exact hc
  ·have z:=Bool.eq_false_iff.mpr z
   rw[if_neg (by rw[z];simp)] at hc
   rw[z]
   exact iteF ⟨_,rfl,hc⟩
 ·intro D H' hD sm eD
  have em:(((S l).cps.toList.map λc=>V.str ⟨#[c]⟩).filter (λ_=>true)).map grdV=((l.map grd).map S).map V.str:=by
   rw[List.filter_eq_self.mpr (λ_ _=>rfl),ek,l28,l28,l28]
   exact l51 λd _=>mL d
  refine⟨S [],D,(l.map grd).map S,rfl,rfl,SqL.of (by rw[eD];exact congrArg some (congrArg HO.lst em)),eT _ (by rw[iF];exact hg),?_⟩
  rw[dZ,cI,iF]
  exact q H' sm
abbrev eZ:Stmt:=meth 4 2
abbrev fT:Stmt:=meth 5 2
abbrev dG:Stmt:=meth 6 2
abbrev fU:Stmt:=meth 7 2
abbrev fV:Stmt:=meth 8 2
theorem nY:FnScope ["self"] ["self"] (ad eZ):=mkS
theorem pO:FnScope ["self"] ["self"] (ad fT):=mkS
theorem lC:FnScope ["self"] ["self"] (ad dG):=mkS
theorem pP:FnScope ["self","caret"] ["self"] (ad fU):=mkS
theorem pQ:FnScope ["self"] ["self"] (ad fV):=mkS
theorem eS (s:Str):V.str s=vS s.cps.toList:=congrArg V.str (S_of s).symm
theorem lD (F:Fun K "raw" "Plain.raw" eZ f fd)(T:TxR K mg c BT)(D_escaped:Def P w K mg base 1 "escaped" ["signs"] dg):FnOk P w K mg base CX0 2 f fd ["self"] (h8 c λp=>∃s,p = .one (.plain s)):=by
 have sc:=nY
 refine F.oks sc λcdv A outer s H vs Q E hr h=>?_
 obtain⟨a,p,rfl,ha,⟨s,rfl⟩,hl,q⟩:=h
 obtain⟨g,dx,e⟩:=ha
 refine ao (xb1 (xret (xcd D_escaped hr (xac (xfld (xv 0)) xa0)))) ?_
 exact⟨_,rfl,a,_,dx,_,_,rfl,e,T.o_Plain.cls,T.a_Plain,rfl,s.cps.toList,by rw[eS];rfl,by rw[<- pM];exact g.2,hl,q⟩
theorem nZ (F:Fun K "raw" "Code.raw" fT f fd)(T:TxR K mg c BT):FnOk P w K mg base CX0 2 f fd ["self"] (h8 c λp=>∃s,p = .one (.code s)):=by
 have sc:=pO
 refine F.oks sc λcdv A outer s H vs Q E hr h=>?_
 obtain⟨a,p,rfl,ha,⟨s,rfl⟩,hl,q⟩:=h
 obtain⟨g,dx,e⟩:=ha
 refine ao (xb1 (xret (xop ae (xop ae xstr (xfld (xv 0))) xstr))) ?_
 have hs:sizeLine=16777216:=sizeLine_eq
 have hl:([96]++s.cps.toList++[96]).length<=100000:=hl
 rw[l5,l5] at hl
 simp only[l8,l23] at hl
 refine⟨_,rfl,a,_,dx,_,_,rfl,e,T.o_Code.cls,T.a_Code,rfl,?_⟩
 rw[eS]
 refine⟨_,_,rfl,rfl,by show 1+(S s.cps.toList).length<=_;rw[am s.cps.toList,hs];omega,?_⟩
 rw[show Str.ofString "`"++S s.cps.toList=S ([96]++s.cps.toList) from bb [96] _]
 refine⟨_,_,rfl,rfl,by show (S ([96]++s.cps.toList)).length+1<=_;rw[am,l5,hs];show 1+_+1<=_;omega,?_⟩
 rw[show S ([96]++s.cps.toList)++Str.ofString "`"=S ([96]++s.cps.toList++[96]) from bb _ [96]]
 exact q H (Same.refl H)
theorem oa (F:Fun K "raw" "Mark.raw" fV f fd)(T:TxR K mg c BT):FnOk P w K mg base CX0 2 f fd ["self"] (h8 c λp=>∃s,p = .one (.note s)):=by
 have sc:=pQ
 refine F.oks sc λcdv A outer s H vs Q E hr h=>?_
 obtain⟨a,p,rfl,ha,⟨s,rfl⟩,hl,q⟩:=h
 obtain⟨g,dx,e⟩:=ha
 refine ao (xb1 (xret (xop ae (xop ae xstr (xfld (xv 0))) xstr))) ?_
 have hs:sizeLine=16777216:=sizeLine_eq
 have hl:([91,94]++s.cps.toList++[93]).length<=100000:=hl
 rw[l5,l5] at hl
 simp only[l8,l23] at hl
 refine⟨_,rfl,a,_,dx,_,_,rfl,e,T.o_Mark.cls,T.a_Mark,rfl,?_⟩
 rw[eS]
 refine⟨_,_,rfl,rfl,by show 2+(S s.cps.toList).length<=_;rw[am s.cps.toList,hs];omega,?_⟩
 rw[show Str.ofString "[^"++S s.cps.toList=S ([91,94]++s.cps.toList) from bb [91,94] _]
 refine⟨_,_,rfl,rfl,by show (S ([91,94]++s.cps.toList)).length+1<=_;rw[am,l5,hs];show 2+_+1<=_;omega,?_⟩
 rw[show S ([91,94]++s.cps.toList)++Str.ofString "]"=S ([91,94]++s.cps.toList++[93]) from bb _ [93]]
 exact q H (Same.refl H)
theorem og (F:Fun K "raw" "Link.raw" fU f fd)(T:TxR K mg c BT)(D_escaped:Def P w K mg base 1 "escaped" ["signs"] dg):FnOk P w K mg base CX0 2 f fd ["self"] (h8 c λp=>∃s n,p = .one (.link s n)):=by
 have sc:=pP
 refine F.oks sc λcdv A outer s H vs Q E hr h=>?_
 obtain⟨a,p,rfl,ha,⟨s,n,rfl⟩,hl,q⟩:=h
 obtain⟨g,g2,dx,e⟩:=ha
 refine ao (xbc (xset (i:=1) sc.nd rfl (Or.inl rfl) (xifE (bA (xm PySem.F.plainAttrs_str PySem.F.slot_str_startswith PySem.F.type_str_startswith aO (xfld (xv 0)) (xac xstr xa0))) xstr xstr))
  (xb1 (xret (xop ae (xop ae (xop ae (xop ae (xop ae xstr (xv 1)) (xcd D_escaped hr (xac (xfld (xv 0)) xa0))) xstr) (xfld (xv 0))) xstr)))) ?_
 have hs:sizeLine=16777216:=sizeLine_eq
 rw[show aS ["self","caret"] [V.ref a]=[some (V.ref a),none] from rfl]
 have hl:([91]++bn s.cps.toList++aR s.cps.toList++[93,40]++n.cps.toList++[41]).length<=100000:=hl
 simp only[l5,l8,l23] at hl
 have hsl:s.cps.toList.length<=100000:=by rw[<- pM];exact g.2
 have rest:∀H1,Same H H1->∀R,(∀H',Same H H'->R (vS (raw1 (.link s n))) H')->tOp (λx y H Q=>∃i j,x = .str i/\y = .str j/\i.length+j.length<=sizeLine/\Q (.str (i++j)) H) (tOp (λx y H Q=>∃i j,x = .str i/\y = .str j/\i.length+j.length<=sizeLine/\Q (.str (i++j)) H) (tOp (λx y H Q=>∃i j,x = .str i/\y = .str j/\i.length+j.length<=sizeLine/\Q (.str (i++j)) H) (tOp (λx y H Q=>∃i j,x = .str i/\y = .str j/\i.length+j.length<=sizeLine/\Q (.str (i++j)) H) (tOp (λx y H Q=>∃i j,x = .str i/\y = .str j/\i.length+j.length<=sizeLine/\Q (.str (i++j)) H) (tC (.str "[")) (tVar 1)) (cG dg [] E0 (aE (tFld K (tVar 0) "words") tNil))) (tC (.str "]("))) (tFld K (tVar 0) "name")) (tC (.str ")")) [some (V.ref a),some (vS (bn s.cps.toList))] H1 R:=by
  intro H1 s1 R hR
  refine⟨_,rfl,_,_,rfl,rfl,by show 1+(S (bn s.cps.toList)).length<=_;rw[am,hs];omega,?_⟩
  rw[show Str.ofString "["++S (bn s.cps.toList)=S ([91]++bn s.cps.toList) from bb [91] _]
  refine⟨_,rfl,a,_,dx,_,_,rfl,s1 _ _ e,T.o_Link.cls,T.a_Linkw,rfl,s.cps.toList,by rw[eS];rfl,hsl,by omega,λH2 s2=>?_⟩
  refine⟨_,_,rfl,rfl,by rw[am,am,hs,l5];show 1+_+_<=_;omega,?_⟩
  rw[bb]
  refine⟨_,_,rfl,rfl,by show (S ([91]++bn s.cps.toList++aR s.cps.toList)).length+2<=_;rw[am,hs,l5,l5];show 1+_+_+2<=_;omega,?_⟩
  rw[show S ([91]++bn s.cps.toList++aR s.cps.toList)++Str.ofString "]("=S ([91]++bn s.cps.toList++aR s.cps.toList++[93,40]) from bb _ [93,40]]
  refine⟨_,rfl,a,_,dx,_,_,rfl,(s1.trans s2) _ _ e,T.o_Link.cls,T.a_Linkn,rfl,?_⟩
  rw[eS]
  refine⟨_,_,rfl,rfl,by rw[am (_++[93,40]),am n.cps.toList,hs,l5,l5,l5];show 1+_+_+2+_<=_;omega,?_⟩
  rw[bb]
  refine⟨_,_,rfl,rfl,by show (S ([91]++bn s.cps.toList++aR s.cps.toList++[93,40]++n.cps.toList)).length+1<=_;rw[am,hs,l5,l5,l5,l5];show 1+_+_+2+_+1<=_;omega,?_⟩
  rw[show S ([91]++bn s.cps.toList++aR s.cps.toList++[93,40]++n.cps.toList)++Str.ofString ")"=S ([91]++bn s.cps.toList++aR s.cps.toList++[93,40]++n.cps.toList++[41]) from bb _ [41]]
  exact hR H2 (s1.trans s2)
 refine⟨_,rfl,a,_,dx,_,_,rfl,e,T.o_Link.cls,T.a_Linkw,rfl,rfl,s,_,rfl,rfl,by rw[pM,hs];omega,_,rfl,?_⟩
 have hst:Txt.startswith s (Str.ofString "^")=decide (s.cps.toList.head? = some 94):=by
  have h1:Txt.startswith (S s.cps.toList) (S [94])=([94]:List Nat).isPrefixOf s.cps.toList:=ez _ _
  rw[S_of] at h1
  refine h1.trans ?_
  cases s.cps.toList with
  |nil=>rfl
  |cons x r=>
   rw[Bool.eq_iff_iff]
   simp[List.isPrefixOf]
   exact eq_comm
 rw[hst]
 by_cases z:s.cps.toList.head? = some 94
 ·have ec:bn s.cps.toList=[92]:=if_pos z
  rw[decide_eq_true z]
  refine iteT ?_
  have:=rest H (Same.refl H) _ q
  rw[ec] at this
  exact this
 ·have ec:bn s.cps.toList=[]:=if_neg z
  rw[decide_eq_false z]
  refine iteF ?_
  have:=rest H (Same.refl H) _ q
  rw[ec] at this
  exact this
abbrev pR:Stmt:=top 11
theorem scRawOf:FnScope ["parts","texts","behind_mark","part","text"] ["parts"] (ad pR):=mkS
theorem mM {k:Nat}{R:PC->Prop}(F:Fun K "raw_of" "raw_of" pR f fd)(T:TxR K mg c BT)(hM:RawV P w K mg base k c R):FnOk P w K mg base CX0 (k+1) f fd ["parts"] (eY c R):=by
 have sc:=scRawOf
 refine F.oks sc λcdv A outer s H vs Q E hr h=>?_
 obtain⟨l,as,ps,rfl,el,hps,hR,hal,hl,q⟩:=h
 refine ao (xbc (xset (i:=1) sc.nd rfl (Or.inl rfl) (xlst xa0))
  (xbc (xset (i:=2) sc.nd rfl (Or.inl rfl) xbl)
  (xbc (xfor PassesOwn.never rfl (xil (xv 0)) (xgn (i:=3) sc.nd rfl (Or.inl rfl))
  (xbc (xset (i:=4) sc.nd rfl (Or.inl rfl) (xmV0 (k:=k) (xv 3) (hr.mono (by omega))))
  (xbc (xif (xand (bA (xv 2)) (fv (bA (xm PySem.F.plainAttrs_str PySem.F.slot_str_startswith PySem.F.type_str_startswith aO (xv 4) (xac xstr xa0))))).xt (xb1 (xset (i:=4) sc.nd rfl (Or.inl rfl) (xop ae xstr (xv 4)))) xb0)
  (xbc (b8 (xm PySem.F.plainAttrs_list PySem.F.slot_list_append PySem.F.type_list_append aP (xv 1) (xac (xv 4) xa0)))
  (xb1 (xset (i:=2) sc.nd rfl (Or.inl rfl) (xcB call_isC T.n_isinstance rfl (xac (xv 3) (xac (xgC T.c_Mark) xa0)))))))))
  (xb1 (xret (xm PySem.F.plainAttrs_str PySem.F.slot_str_join PySem.F.type_str_join dX xstr (xac (xv 1) xa0))))))) ?_
 have hs:sizeLine=16777216:=sizeLine_eq
 have hlen:=hps.len
 rw[show aS ["parts","texts","behind_mark","part","text"] [V.ref l]=[some (.ref l),none,none,none,none] from rfl]
 refine⟨big (show (0:Nat)<=1000000 by decide),λtl htl=>?_⟩
 have s1:=ac htl (.lst [])
 have e1:upd H tl (.lst []) tl=some (.lst []):=aa
 dsimp only[av,sA,sB]
 generalize upd H tl (.lst [])=H1 at s1 e1 ⊢
 refine c9 ?_
 dsimp only[sA,sB]
 refine⟨_,rfl,l,rfl,⟨_,SqL.of (s1 _ _ el)⟩,?_⟩
 refine bN (xs:=as.map V.ref) (λi σ H'=>∃(b:Bool) (ts:List (List Nat)) (x3 x4:Option V),σ=[some (.ref l),some (.ref tl),some (.bl b),x3,x4]/\Same H H'/\H' tl=some (.lst (ts.map vS))/\ts.length=i/\ts++i5 b (ps.drop i)=i5 false ps) ⟨false,[],none,none,rfl,s1,e1,rfl,rfl⟩ ?_ ?_ ?_
 ·rintro i σ H3 _ ⟨b,ts,x3,x4,_,s3,_⟩
  exact SqL.of (s3 _ _ el)
 ·rintro i x σ H3 hx ⟨b,ts,x3,x4,rfl,s3,e3,htl3,hrun⟩
  rw[List.getElem?_map] at hx
  cases hai:as[i]? with
  |none=>rw[hai] at hx;cases hx
  |some a=>
  rw[hai] at hx
  cases hx
  obtain⟨p,hp1,hp2⟩:=hps.get hai
  have hpm:=l17 hp1
  have hpi:=List.getElem?_eq_some_iff.mp hp1
  have hpl:(rawP p).length<=100000:=l10 (pL (b:=false) hpm) hl
  rw[List.drop_eq_getElem_cons hpi.1,hpi.2] at hrun
  have hrun:ts++aK b (rawP p)::i5 (cY p) (ps.drop (i+1))=i5 false ps:=hrun
  have hcl:=mJ b (rawP p)
  dsimp only[av,sA,sB]
  obtain⟨Cc,dx,fs,sp,e1',e2',V,hsp⟩:=hM p (hR p hpm) hpl H3 a (hp2.same s3)
  refine⟨_,rfl,a,Cc,dx,fs,_,sp,rfl,e1',e2',V,hsp _ _ λH4 s4=>?_⟩
  dsimp only[av,sA,sB]
  have tS:Tells (tAnd (tB (tVar 2)) (tB (tBM K "str" (rS2 λz y => .bl (Txt.startswith z y)) (tVar 4) (aE (tC (.str ":")) tNil)))) [some (.ref l),some (.ref tl),some (.bl b),some (.ref a),some (vS (rawP p))] H4 (b&&([58]:List Nat).isPrefixOf (rawP p)):=iU _ _ (t_bv (ev_v rfl)) λ_ H5 s5=>dA (rawP p) [58] (by omega) rfl (ev_v rfl)
  have hpre:([58]:List Nat).isPrefixOf (rawP p)=decide ((rawP p).head? = some 58):=by
   cases rawP p with
   |nil=>rfl
   |cons x r=>
    rw[Bool.eq_iff_iff]
    simp[List.isPrefixOf]
    exact eq_comm
  rw[hpre] at tS
  refine bt (λσ' H'=>σ'=[some (.ref l),some (.ref tl),some (.bl b),some (.ref a),some (vS (aK b (rawP p)))]/\Same H4 H') (λN hN=>?_) ?_
  ·by_cases z:(b&&decide ((rawP p).head? = some 58))=true
   ·refine s_if true (tS.eq z) (λH5 s5 _=>?_) λ_ _ y=>Bool.noConfusion y
    refine⟨_,rfl,_,_,rfl,rfl,by show 1+(S (rawP p)).length<=_;rw[am,hs];omega,?_⟩
    rw[show Str.ofString "\\"++S (rawP p)=S (92::rawP p) from bb [92] _]
    dsimp only[av,sA,sB]
    refine hN _ _ ⟨?_,s5⟩
    unfold aK
    rw[if_pos z]
   ·have z:=Bool.eq_false_iff.mpr z
    refine s_if false (tS.eq z) (λ_ _ y=>Bool.noConfusion y) λH5 s5 _=>?_
    refine hN _ _ ⟨?_,s5⟩
    unfold aK
    rw[if_neg (by rw[z];simp)]
  ·rintro σ' H5 ⟨rfl,s5⟩
   have s35:=(s3.trans s4).trans s5
   have e5:=s5 _ _ (s4 _ _ e3)
   refine⟨_,rfl, .inl ⟨rfl,_,SqL.of e5⟩,_,rfl,tl,_,_,rfl,rfl,e5,by rw[l6,hs];have:=(List.getElem?_eq_some_iff.mp hai).1;omega,?_⟩
   obtain⟨ty,hty,hkt⟩:=T.isMark (hp2.same s35)
   have hal2:a≠tl:=λz=>by
    have:=s5 _ _ (s4 _ _ e1')
    rw[z,e5] at this
    cases this
   have htl0:H tl=none:=htl
   obtain⟨ty2,hty2,hkt2⟩:=T.isMark (H:=upd H5 tl (.lst (ts.map vS++[vS (aK b (rawP p))]))) (hp2.same (au htl0 s35))
   refine⟨_,rfl,_,_,_,_,rfl,hty2,hkt2,?_⟩
   dsimp only[av,sA,sB]
   exact⟨cY p,ts++[aK b (rawP p)],_,_,rfl,au htl0 s35,by rw[aa,l16];rfl,by rw[l5,htl3];rfl,by rw[l24];exact hrun⟩
 ·rintro σ H3 ⟨b,ts,x3,x4,rfl,s3,e3,htl3,hrun⟩
  rw[l6,hlen,List.drop_length] at hrun
  have hts:ts=i5 false ps:=by rw[<- hrun];exact(l31 _).symm
  subst hts
  refine⟨rfl,_,rfl,S [],tl,(i5 false ps).map S,rfl,rfl,SqL.of (by rw[e3,l28];rfl),eT _ (by rw[fF];exact hl),?_⟩
  rw[dZ,cI,fF]
  exact q H3 s3
theorem j9 {k:Nat}(F:Fun K "raw" "Strong.raw" dG f fd)(T:TxR K mg c BT)(D_raw_of:Def P w K mg base k "raw_of" ["parts"] (eY c R1)):FnOk P w K mg base CX0 (k+1) f fd ["self"] (h8 c λp=>∃ps,p = .strong ps/\ps.length<=100000):=by
 have sc:=lC
 refine F.oks sc λcdv A outer s H vs Q E hr h=>?_
 obtain⟨a,p,rfl,ha,⟨ps,rfl,hpl⟩,hl,q⟩:=h
 obtain⟨dx,l,as,e,el,hps⟩:=ha
 refine ao (xb1 (xret (xop ae (xop ae xstr (xcd D_raw_of hr (xac (xfld (xv 0)) xa0))) xstr))) ?_
 have hs:sizeLine=16777216:=sizeLine_eq
 have hl:([42]++de false ps++[42]).length<=100000:=hl
 rw[l5,l5] at hl
 simp only[l8,l23] at hl
 refine⟨_,rfl,a,_,dx,_,_,rfl,e,T.o_Strong.cls,T.a_Strong,rfl,l,as,ps.map .one,rfl,el,hps.toC,λp hp=>?_,by rw[hps.len];exact hpl,by rw[eV];omega,λH1 s1=>?_⟩
 ·obtain⟨x,hx,rfl⟩:=l32.mp hp
  unfold R1
  simp[one?]
 ·rw[eV]
  refine⟨_,_,rfl,rfl,by show 1+(S (de false ps)).length<=_;rw[am,hs];omega,?_⟩
  rw[show Str.ofString "*"++S (de false ps)=S ([42]++de false ps) from bb [42] _]
  refine⟨_,_,rfl,rfl,by show (S ([42]++de false ps)).length+1<=_;rw[am,hs,l5];show 1+_+1<=_;omega,?_⟩
  rw[show S ([42]++de false ps)++Str.ofString "*"=S ([42]++de false ps++[42]) from bb _ [42]]
  exact q H1 s1
end
section
abbrev sBar:Stmt:=top 22
theorem scBar:FnScope p19 p19 (ad sBar):=mkS
theorem ok_bar (F:Fun K "is_parting_bar" "is_parting_bar" sBar f fd):FnOk P w K mg base CX0 1 f fd p19 spBar:=by
 have sc:=scBar
 refine F.oks sc λcdv A outer s H vs Q E hr h=>?_
 obtain⟨l,i,rfl,hl,h1,q⟩:=h
 refine ao (xbc (xif (aw jx (xix gh (xv 0) (xv 1) (λ_ _=>rfl)) xstr (ai _)) (xb1 (xret xbl)) xb0)
  (xb1 (xret (xorV (xcmp aD (xv 1) xint (ai _)) (xone (xcmp jx (xix gh (xv 0) (xop im (xv 1) xint) (λ_ _=>rfl)) xstr (ai _))))))) ?_
 refine⟨_,rfl,_,rfl,_,_,_,rfl,rfl,bigS hl,at_S h1,rfl,_,rfl,?_⟩
 have e1:=getD_some h1
 refine ite2 (λc=>?_) (λc=>?_)
 ·have c':=neT (a:=[l.getD i 0]) (b:=[124]) c rfl rfl
  have e:b9 l i=false:=by
   unfold b9
   rw[e1]
   have:(some (l.getD i 0)==some 124)=false:=by
    rw[beq_eq_false_iff_ne]
    intro z
    exact c' (by rw[Option.some.inj z])
   rw[this];rfl
  rw[e] at q
  exact q
 ·have c':=neF (a:=[l.getD i 0]) (b:=[124]) c rfl rfl
  have c2:l.getD i 0=124:=by simpa using c'
  have e:b9 l i=(i==0||l[i - 1]? != some 92):=by
   unfold b9
   rw[e1,c2]
   rfl
  rw[e] at q
  refine⟨_,rfl,rfl,_,rfl,?_⟩
  refine ite2 (λd=>?_) (λd=>?_)
  ·have:i=0:=by
    have:=of_decide_eq_true d
    have:=V.int.inj this
    omega
   subst this
   exact q
  ·have hi:i≠0:=by
    intro z
    subst z
    exact d (by simp)
   have hs:(i:Int) - 1=((i - 1:Nat):Int):=by omega
   refine⟨_,rfl,_,rfl,_,_,rfl,rfl,_,_,_,rfl,rfl,bigS hl,(by rw[hs];exact at_S (by omega)),rfl,?_⟩
   have e2:(i==0||l[i - 1]? != some 92) = !decide (V.str ⟨#[l.getD (i - 1) 0]⟩=V.str (Str.ofString "\\")):=by
    have z0:(i==0)=false:=by simpa using hi
    rw[z0,Bool.false_or,getD_some (show i - 1 < l.length by omega),Bool.eq_iff_iff]
    constructor
    ·intro z
     cases hd:decide (V.str ⟨#[l.getD (i - 1) 0]⟩=V.str (Str.ofString "\\")) with
     |false=>rfl
     |true=>
      have:=eqT (a:=[l.getD (i - 1) 0]) (b:=[92]) hd rfl rfl
      simp only[List.cons.injEq,and_true] at this
      rw[this] at z
      simp at z
    ·intro z
     have:=neT (a:=[l.getD (i - 1) 0]) (b:=[92]) z rfl rfl
     simp only[bne_iff_ne,ne_eq,Option.some.injEq]
     intro y
     exact this (by rw[y])
   rw[e2] at q
   exact q
abbrev pS:Stmt:=top 20
theorem scWords:FnScope ["text"] ["text"] (ad pS):=mkS
theorem ok_words (F:Fun K "words_of" "words_of" pS f fd):FnOk P w K mg base CX0 1 f fd ["text"] iS:=by
 refine F.ok scWords (λvs H Q E h=>?_) (λcdv A outer s H vs Q E hr h=>?_)
 ·obtain⟨l,rfl,_⟩:=h
  rfl
 obtain⟨l,rfl,hl,k⟩:=h
 refine ao (xb1 (xret (xlc (cl:=[]) (own:=["word"]) (fr:=[]) (N':=["word"]) rfl (bw (xs:=[]) trivial trivial (by decide +kernel)) (by decide +kernel) (by decide +kernel) (by with_unfolding_all rfl)
  (xil (xm PySem.F.plainAttrs_str PySem.F.slot_str_split PySem.F.type_str_split mt_split (xv 0) (xac xstr xa0)))
  (λ_ _ _ _=>xgn (i:=0) (show (["word"]:List Str).Nodup by decide +kernel) rfl (Or.inl rfl)) (λ_ _ _ _=>xq1 (aw jx (xv 0) xstr (ai _))) (λ_ _ _ _=>(xv 0))))) ?_
 refine⟨_,rfl,rfl,S l,S [32],rfl,rfl,rfl,by rw[am];omega,λp hp=>⟨p,rfl,⟨_,SqL.of aa⟩,?_⟩⟩
 refine lc_list (λv => !decide (v = .str (S []))) id (SqL.of aa) ?_ ?_ ?_
 ·rw[kW,l6,l6]
  have:=iq 32 l
  have hs:sizeLine=16777216:=sizeLine_eq
  omega
 ·intro x hx H' sm C N hC hN
  obtain⟨z,_,rfl⟩:=l32.mp hx
  refine⟨(nfLe.refl _ _ _).set (by decide) _,_,rfl,rfl,_,rfl,?_⟩
  refine ite2 (λc=>⟨_,rfl,hC _ (Same.refl _) c⟩) (λc=>hN _ (Same.refl _) (Bool.eq_false_iff.mpr c))
 ·intro D H' hD sm e
  refine k D H' ((ac hp _).trans sm) ((ac hp _).free hD) ?_
  rw[e,kW]
  congr 2
  unfold bj
  rw[List.map_id,l28,List.filter_map]
  congr 1
  refine List.filter_congr λw _=>?_
  show (!decide (V.str (S w)=V.str (S [])))=decide (w≠[])
  by_cases h:w=[]
  ·subst h;simp
  ·have:V.str (S w)≠V.str (S []):=λq=>h (hZ (V.str.inj q))
   simp[h,this]
abbrev sTidy:Stmt:=top 21
theorem scTidy:FnScope ["text"] ["text"] (ad sTidy):=mkS
theorem ok_tidy (F:Fun K "tidy" "tidy" sTidy f fd)(D_words_of:Def P w K mg base 1 "words_of" ["text"] iS):FnOk P w K mg base CX0 2 f fd ["text"] jV:=by
 have sc:=scTidy
 refine F.oks sc λcdv A outer s H vs Q E hr h=>?_
 obtain⟨l,rfl,hl,q⟩:=h
 refine ao (xb1 (xret (xm PySem.F.plainAttrs_str PySem.F.slot_str_join PySem.F.type_str_join dX xstr (xac (xcd D_words_of hr (xac (xv 0) xa0)) xa0)))) ?_
 refine⟨rfl,_,rfl,?_⟩
 refine⟨l,rfl,hl,λr H' sm _ e=>?_⟩
 refine⟨S [32],r,(bj l).map S,rfl,rfl,?_,?_,?_⟩
 ·exact SqL.of (by rw[e,pp])
 ·exact jW l hl
 rw[dZ]
 exact q H' sm
abbrev pT:Stmt:=top 23
theorem scCells:FnScope ["text","bars","texts","begin","bar"] ["text"] (ad pT):=mkS
theorem ok_cells (F:Fun K "split_cells" "split_cells" pT f fd)(T:Tx mg)(D_is_parting_bar:Def P w K mg base 1 "is_parting_bar" p19 spBar)(D_tidy:Def P w K mg base 2 "tidy" ["text"] jV):FnOk P w K mg base CX0 3 f fd ["text"] spCells:=by
 have sc:=scCells
 refine F.oks sc λcdv A outer s H vs Q E hr h=>?_
 obtain⟨l,rfl,hl,q⟩:=h
 refine ao (xbc (xslc (i:=1) sc.nd rfl rfl (cl:=[("text",s.heap.objs.size+1)]) (own:=["place"]) (fr:=[0]) (N':=["place","text"]) rfl (bw (xs:=["text"]) ⟨rfl,trivial⟩ ⟨rfl,rfl, .inl rfl, .inl rfl,trivial⟩ (by decide +kernel)) (by decide +kernel) (by decide +kernel) (by with_unfolding_all rfl)
  (xir1 rfl T.n_range (xac (xcB aJ T.n_len PySem.boot_len (xac (xv 0) xa0)) xa0))
  (λ_ _ _ _=>xgn (i:=0) (show (["place","text"]:List Str).Nodup by decide +kernel) rfl (Or.inl rfl)) (λ_ _ _ _=>xq1 (bA (xcd D_is_parting_bar hr (xac (xv 1) (xac (xv 0) xa0))))) (λ_ _ _ _=>(xv 0)))
  (xbc (xset (i:=2) sc.nd rfl (Or.inl rfl) (xlst xa0))
  (xbc (xset (i:=3) sc.nd rfl (Or.inl rfl) xint)
  (xbc (xfor PassesOwn.never rfl (xil (xop fJ (xv 1) (xlst (xac (xcB aJ T.n_len PySem.boot_len (xac (xv 0) xa0)) xa0)))) (xgn (i:=4) sc.nd rfl (Or.inl rfl))
  (xbc (b8 (xm PySem.F.plainAttrs_list PySem.F.slot_list_append PySem.F.type_list_append aP (xv 2) (xac (oZ (xcd D_tidy hr (xac (xsl bq (xv 0) (xo1 (xv 3)) (xo1 (xv 4))) xa0)) (by decide +kernel) (by decide +kernel)) xa0)))
  (xb1 (xset (i:=3) sc.nd rfl (Or.inl rfl) (xop bp (xv 4) xint)))))
  (xb1 (xret (xv 2))))))) ?_
 have hs:sizeLine=16777216:=sizeLine_eq
 refine⟨_,rfl,_,rfl,bigS hl,_,rfl,by omega,by rw[am];omega,?_⟩
 refine lc_range 0 (pInt (b9 l)) id (by rw[am];omega) ?_ ?_
 ·intro i hi H' sm C N hC hN
  have hi':i < l.length:=by rw[am] at hi;omega
  refine⟨(nfLe.refl _ _ _).set (by decide) _,_,rfl,_,rfl,l,i,by rw[Int.zero_add];rfl,hl,hi',_,rfl,?_⟩
  refine ite2 (λc=>⟨_,rfl,hC _ (Same.refl _) ?_⟩) (λc=>hN _ (Same.refl _) ?_)
  ·show b9 l (0+(i:Int)).toNat=true
   rw[show (0+(i:Int)).toNat=i by omega];exact c
  ·show b9 l (0+(i:Int)).toNat=false
   rw[show (0+(i:Int)).toNat=i by omega];exact Bool.eq_false_iff.mpr c
 intro B H1 hB s1 eB
 rw[show (((S l).length:Nat):Int).toNat=l.length by rw[am];omega,nP] at eB
 refine⟨big (by decide),λr hr1=>?_⟩
 have hBr:B≠r:=λe=>by rw[e,hr1] at eB;cases eB
 refine⟨_,rfl,_,rfl,_,rfl,bigS hl,big (show (1:Nat)<=1000000 by decide),λt ht=>?_⟩
 have htr:r≠t:=λe=>by rw[<- e,aa] at ht;cases ht
 have hBt:B≠t:=λe=>by rw[<- e,af hBr,eB] at ht;cases ht
 let bars:=(List.range l.length).filter (b9 l)
 have hb:=bars_len l
 refine⟨B,t,_,_,rfl,rfl,by rw[af hBt,af hBr];exact eB,aa,?_,λL hL=>⟨L,rfl,⟨_,SqL.of aa⟩,?_⟩⟩
 ·rw[l6];show ((List.range l.length).filter (b9 l)).length+1<=sizeLine;omega
 have hLr:L≠r:=λe=>by rw[e,af htr,aa] at hL;cases hL
 have hLt:L≠t:=λe=>by rw[e,aa] at hL;cases hL
 have ext:((bars.map λ(i:Nat)=>V.int i)++[V.int (S l).length])=(bars++[l.length]).map λ(i:Nat)=>V.int i:=by rw[am];simp
 rw[ext]
 let ps:=bars++[l.length]
 have hps:∀(i p:Nat),ps[i]? = some p->p<=l.length:=by
  intro i p h
  rcases l18.mp (l17 h) with h |h
  ·exact Nat.le_of_lt (l61.mp (l74.mp h).1)
  ·simp at h;omega
 have hraw:cz l 0 ps=cK l:=la l
 refine bN (xs := ps.map fun (i : Nat) => V.int i) (λi σ H'=>∃x,σ=[some (vS l),some (.ref B),some (.ref r),some (.int (dR 0 ps i)),x]/\Same H H'/\H' L=some (.lst (ps.map λ(i:Nat)=>V.int i)) ∧
  H' r=some (.lst (((cK l).take i).map λc=>vS (ax (fx c))))) ⟨none,rfl,?_,aa,?_⟩ ?_ ?_ ?_
 ·refine(s1.trans ?_).trans (ac hL _)
  exact(ac hr1 _).trans (ac ht _)
 ·rw[af (Ne.symm hLr),af htr,aa];simp
 ·rintro i σ H' _ ⟨x,_,_,h,_⟩
  exact SqL.of h
 ·rintro i x σ H' hx ⟨y,rfl,s2,eL,er⟩
  rw[List.getElem?_map] at hx
  cases hp:ps[i]? with
  |none=>rw[hp] at hx;cases hx
  |some p=>
  rw[hp] at hx
  cases hx
  have hpl:=hps i p hp
  have hcell:=gA l ps 0 i p hp
  rw[hraw] at hcell
  have hbe:dR 0 ps i<=l.length:=beg_bars hp
  refine⟨_,rfl, .inl ⟨rfl,_,SqL.of er⟩,_,rfl,_,rfl,_,rfl,_,rfl,_,rfl,_,rfl,bigS hl,(l.drop (dR 0 ps i)).take (p - dR 0 ps i),?_,?_,λH3 s3=>⟨_,rfl,?_,?_⟩⟩
  ·rw[gv,cut_mid l _ _ hpl hbe];rfl
  ·rw[l33,l25];omega
  ·rw[am]
   have:=tidy_len ((l.drop (dR 0 ps i)).take (p - dR 0 ps i))
   rw[l33,l25] at this
   omega
  have er3:=s3 _ _ er
  refine⟨r,_,_,rfl,rfl,er3,?_,?_⟩
  ·rw[l6,l33]
   have:=pj l
   omega
  refine⟨_,rfl,_,_,rfl,rfl,some (.int (p:Int)),?_,?_,?_,?_⟩
  ·rw[nO hp];rfl
  ·exact au (s1.free hr1) (s2.trans s3)
  ·rw[af hLr];exact s3 _ _ eL
  ·rw[aa,<- jX _ _ _ _ hcell]
   congr 4
   exact congrArg V.str (iQ _)
 ·rintro σ H' ⟨x,rfl,s2,eL,er⟩
  refine⟨_,rfl,q r H' s2 (s1.free hr1) ?_⟩
  rw[er,pc,l28,l41 (by rw[<- hraw,gy,l6];exact l7 _)]
  rfl
abbrev sName:Stmt:=top 18
theorem scName:FnScope ["thing"] ["thing"] (ad sName):=mkS
theorem ok_name (F:Fun K "is_name" "is_name" sName f fd)(T:Tx mg):FnOk P w K mg base CX0 1 f fd ["thing"] mC:=by
 have sc:=scName
 refine F.oks sc λcdv A outer s H vs Q E hr h=>?_
 obtain⟨l,rfl,hl,q⟩:=h
 refine ao (xbc (xif (hY (bA (xcB bC T.n_isinstance rfl (xac (xv 0) (xac (xty (T:="str") T.n_str rfl) xa0))))) (xb1 (xret xbl)) xb0)
  (xbc (xif (xor (aw op_lt (xcB aJ T.n_len PySem.boot_len (xac (xv 0) xa0)) xint (ai _)) (xor1 (aw hV (xcB aJ T.n_len PySem.boot_len (xac (xv 0) xa0)) (xgI T.g_LONGEST_NAME) (ai _)))).xt (xb1 (xret xbl)) xb0)
  (xb1 (xret (xcB (mx rfl) T.n_all rfl (xac (xlc (cl:=[]) (own:=["sign"]) (fr:=[]) (N':=["sign"]) rfl (bw (xs:=[]) trivial trivial (by decide +kernel)) (by decide +kernel) (by decide +kernel) (by with_unfolding_all rfl)
  (xis (xv 0))
  (λ_ _ _ _=>xgn (i:=0) (show (["sign"]:List Str).Nodup by decide +kernel) rfl (Or.inl rfl)) (λ_ _ _ _=>xq0) (λ_ _ _ _=>(xcmp f8 (xv 0) (xgS T.g_NAME_SIGNS) (by with_unfolding_all rfl)))) xa0)))))) ?_
 refine⟨_,rfl,_,_,_,true,rfl, .str _,kit_same _ _,_,rfl,?_⟩
 refine ite2 (λc=>absurd c (by decide)) (λ_=>?_)
 refine⟨_,rfl,_,rfl,bigS hl,_,_,rfl,rfl,_,rfl,?_⟩
 refine ite2 (λc=>?_) (λc=>?_)
 ·refine ite2 (λ_=>?_) (λc=>absurd rfl c)
  have e:bE l=false:=by
   have:=of_decide_eq_true c
   rw[am] at this
   unfold bE
   rw[decide_eq_false (show ¬ 1<=l.length by omega)];rfl
  rw[e] at q
  exact q H (Same.refl H)
 refine⟨_,rfl,_,rfl,bigS hl,_,_,rfl,rfl,_,rfl,?_⟩
 have h1:1<=l.length:=by
  have:=of_decide_eq_false (Bool.eq_false_iff.mpr c)
  rw[am] at this
  omega
 refine ite2 (λd=>?_) (λd=>?_)
 ·have e:bE l=false:=by
   have:=of_decide_eq_true d
   rw[am] at this
   unfold bE
   rw[decide_eq_false (show ¬ l.length<=12 by omega),Bool.and_false];rfl
  rw[e] at q
  exact q H (Same.refl H)
 have h2:l.length<=12:=by
  have:=of_decide_eq_false (Bool.eq_false_iff.mpr d)
  rw[am] at this
  omega
 refine⟨_,rfl,_,rfl,?_⟩
 refine lc_str (λ_=>true) pw (bigS hl) ?_ ?_
 ·intro c hc H' sm C N hC hN
  refine⟨(nfLe.refl _ _ _).set (by decide) _,?_⟩
  refine⟨_,rfl,_,_,rfl,rfl,?_⟩
  have:=hC H' (Same.refl H') rfl
  have e:pw (.str ⟨#[c]⟩) = .bl (!(Builtin.Str.occurrences (S nameSigns) (S [c]) 0 (S nameSigns).length 1).isEmpty):=by
   rw[fA]
   show V.bl ([c].all nameSigns.contains)=_
   simp
  rw[e] at this
  exact this
 intro D H' hD sm eD
 refine⟨D,l.map nameSigns.contains,rfl,SqL.of ?_,?_⟩
 ·rw[eD,ek,List.filter_eq_self.mpr (λ_ _=>rfl),l28,l28]
  congr 2
  refine l51 λc _=>?_
  show V.bl ([c].all nameSigns.contains)=_
  simp
 ·have e:bE l=(l.map nameSigns.contains).all id:=by
   unfold bE
   rw[decide_eq_true h1,decide_eq_true h2,List.all_map]
   simp
  rw[<- e]
  exact q H' sm
abbrev lE:Stmt:=top 19
theorem scNameOf:FnScope ["thing"] ["thing"] (ad lE):=mkS
theorem pU (F:Fun K "name_of" "name_of" lE f fd)(T:Tx mg)(D_is_name:Def P w K mg base 1 "is_name" ["thing"] mC):FnOk P w K mg base CX0 2 f fd ["thing"] iT:=by
 have sc:=scNameOf
 refine F.oks sc λcdv A outer s H vs Q E hr h=>?_
 obtain⟨l,rfl,hl,hn,q⟩:=h
 refine ao (xbc (xif (hY (bA (xcd D_is_name hr (xac (xv 0) xa0)))) (xb1 xnever) xb0)
  (xb1 (xret (xm0 PySem.F.plainAttrs_str PySem.F.slot_str_lower PySem.F.type_str_lower mt_lower (xv 0))))) ?_
 refine⟨_,rfl,l,rfl,hl,λH' sm=>⟨_,rfl,?_⟩⟩
 refine ite2 (λc=>by rw[hn] at c;cases c) (λ_=>?_)
 refine⟨_,rfl,rfl,_,rfl,rfl,by rw[am];exact hl,?_⟩
 rw[lower_S l (name_asc hn)]
 exact q H' sm
abbrev sRest:Stmt:=top 31
theorem scRest:FnScope ["row"] ["row"] (ad sRest):=mkS
theorem ok_rest (F:Fun K "rest_of_quote" "rest_of_quote" sRest f fd):FnOk P w K mg base CX0 1 f fd ["row"] pA:=by
 have sc:=scRest
 refine F.oks sc λcdv A outer s H vs Q E hr h=>?_
 obtain⟨l,rfl,hl,q⟩:=h
 refine ao (xb1 (xret (xifE (bA (xm PySem.F.plainAttrs_str PySem.F.slot_str_startswith PySem.F.type_str_startswith aO (xv 0) (xac xstr xa0))) (xsl bq (xv 0) (xo1 xint) xo0) (xsl bq (xv 0) (xo1 xint) xo0)))) ?_
 refine⟨_,rfl,rfl,_,_,rfl,rfl,bigS hl,_,rfl,?_⟩
 have e:=ez l [62,32]
 refine ite2 (λc=>?_) (λc=>?_)
 ·have c':[62,32].isPrefixOf l=true:=e.symm.trans c
  refine⟨_,rfl,_,rfl,_,rfl,bigS hl,?_⟩
  rw[show ld l=l.drop 2 by unfold ld;rw[if_pos c']] at q
  rw[show Txt.slice (S l) (some 2) none=_ from d8 l 2]
  exact q
 ·have c':¬ [62,32].isPrefixOf l=true:=λz=>c (e.trans z)
  refine⟨_,rfl,_,rfl,_,rfl,bigS hl,?_⟩
  rw[show ld l=l.drop 1 by unfold ld;rw[if_neg c']] at q
  rw[show Txt.slice (S l) (some 1) none=_ from d8 l 1]
  exact q
abbrev sHead:Stmt:=top 32
theorem scHead:FnScope ["bare","level"] ["bare"] (ad sHead):=mkS
theorem ok_head (F:Fun K "heading_level" "heading_level" sHead f fd)(T:Tx mg):FnOk P w K mg base CX0 1 f fd ["bare"] pB:=by
 have sc:=scHead
 refine F.oks sc λcdv A outer s H vs Q E hr h=>?_
 obtain⟨l,rfl,hl,q⟩:=h
 refine ao (xbc (xset (i:=1) sc.nd rfl (Or.inl rfl) (xop im (xcB aJ T.n_len PySem.boot_len (xac (xv 0) xa0)) (xcB aJ T.n_len PySem.boot_len (xac (xm PySem.F.plainAttrs_str PySem.F.slot_str_lstrip PySem.F.type_str_lstrip gj (xv 0) (xac xstr xa0)) xa0))))
  (xbc (xif (xor (aw hV (xv 1) (xgI T.g_DEEPEST_HEADING) (ai _)) (xor1 (hY (bA (xm PySem.F.plainAttrs_str PySem.F.slot_str_startswith PySem.F.type_str_startswith aO (xsl bq (xv 0) (xo1 (xv 1)) xo0) (xac xstr xa0)))))).xt (xb1 (xret xint)) xb0)
  (xb1 (xret (xv 1))))) ?_
 have hdl:(l.dropWhile ([61]:List Nat).contains).length<=l.length:=by have:=gB ([61]:List Nat).contains l;omega
 have elv:((S l).length:Int) - ((Txt.lstripChars (S l) (Str.ofString "=")).length:Nat)=((fL l:Nat):Int):=by
  rw[show Txt.lstripChars (S l) (Str.ofString "=")=_ from fS l [61],am,am]
  have:=gB ([61]:List Nat).contains l
  unfold fL
  omega
 refine⟨_,rfl,_,rfl,bigS hl,_,rfl,rfl,_,_,rfl,rfl,bigS hl,_,rfl,?_,_,_,rfl,rfl,?_⟩
 ·rw[show Txt.lstripChars (S l) (Str.ofString "=")=_ from fS l [61]];exact bigS (by omega)
 dsimp only
 rw[elv]
 refine⟨_,rfl,_,_,rfl,rfl,_,rfl,?_⟩
 refine ite2 (λc=>?_) (λc=>?_)
 ·refine ite2 (λ_=>?_) (λc=>absurd rfl c)
  have:=of_decide_eq_true c
  rw[show eH l=0 by unfold eH;rw[if_pos (.inl (by omega))]] at q
  exact q
 have c':=of_decide_eq_false (Bool.eq_false_iff.mpr c)
 refine⟨_,rfl,_,rfl,_,rfl,_,rfl,bigS hl,rfl,_,_,rfl,rfl,?_,_,rfl,?_⟩
 ·rw[d8];exact bigS (by rw[l25];omega)
 have e:Txt.startswith (Txt.slice (S l) (some ((fL l:Nat):Int)) none) (Str.ofString " ")=[32].isPrefixOf (l.drop (fL l)):=by
  rw[d8];exact ez _ [32]
 rw[e]
 refine ite2 (λd=>?_) (λd=>?_)
 ·rw[show eH l=0 by unfold eH;rw[if_pos (.inr (λz=>by rw[z] at d;cases d))]] at q
  exact q
 ·have e3:eH l=fL l:=by
   unfold eH
   rw[if_neg]
   rintro(h |h)
   ·omega
   ·exact d (by rw[Bool.eq_false_iff.mpr h];rfl)
  rw[e3] at q
  exact⟨_,rfl,q⟩
abbrev sIsC:Stmt:=top 33
theorem scIsC:FnScope ["bare"] ["bare"] (ad sIsC):=mkS
theorem ok_isC (F:Fun K "is_cells" "is_cells" sIsC f fd)(T:Tx mg)(D_is_parting_bar:Def P w K mg base 1 "is_parting_bar" p19 spBar):FnOk P w K mg base CX0 2 f fd ["bare"] spIsC:=by
 have sc:=scIsC
 refine F.oks sc λcdv A outer s H vs Q E hr h=>?_
 obtain⟨l,rfl,hl,q⟩:=h
 refine ao (xb1 (xret (gm (xcmp op_ge (xcB aJ T.n_len PySem.boot_len (xac (xv 0) xa0)) xint (ai _)) (gm (xm PySem.F.plainAttrs_str PySem.F.slot_str_startswith PySem.F.type_str_startswith aO (xv 0) (xac xstr xa0)) (xone (xcd D_is_parting_bar hr (xac (xv 0) (xac (xop im (xcB aJ T.n_len PySem.boot_len (xac (xv 0) xa0)) xint) xa0)))))))) ?_
 refine⟨_,rfl,_,rfl,bigS hl,_,_,rfl,rfl,_,rfl,?_⟩
 refine ite2 (λc=>?_) (λc=>?_)
 ·have c1:=of_decide_eq_true c
  rw[am] at c1
  have h2:2<=l.length:=by omega
  refine⟨_,rfl,rfl,_,_,rfl,rfl,bigS hl,_,rfl,?_⟩
  have e:=ez l [124]
  refine ite2 (λd=>?_) (λd=>?_)
  ·have d':[124].isPrefixOf l=true:=e.symm.trans d
   refine⟨_,rfl,_,rfl,_,rfl,bigS hl,_,_,rfl,rfl,l,l.length - 1,?_,hl,by omega,?_⟩
   ·rw[am]
    show [vS l,V.int ((l.length:Int) - 1)]=[vS l,V.int ((l.length - 1:Nat):Int)]
    rw[show (l.length:Int) - 1=((l.length - 1:Nat):Int) by omega]
   ·rw[show bY l=b9 l (l.length - 1) by unfold bY;rw[decide_eq_true h2,d',Bool.true_and,Bool.true_and]] at q
    exact q
  ·have d':[124].isPrefixOf l=false:=e.symm.trans (Bool.eq_false_iff.mpr d)
   rw[show bY l=false by unfold bY;rw[d',Bool.and_false];rfl] at q
   exact q
 ·have c1:=of_decide_eq_false (Bool.eq_false_iff.mpr c)
  rw[am] at c1
  rw[show bY l=false by unfold bY;rw[decide_eq_false (show ¬ 2<=l.length by omega)];rfl] at q
  exact q
abbrev sDef:Stmt:=top 34
theorem scDef:FnScope ["bare","place","words"] ["bare"] (ad sDef):=mkS
theorem ok_def (F:Fun K "definition_of" "definition_of" sDef f fd)(T:Tx mg)(D_words_of:Def P w K mg base 1 "words_of" ["text"] iS)(D_is_name:Def P w K mg base 1 "is_name" ["thing"] mC)
  (D_name_of:Def P w K mg base 2 "name_of" ["thing"] iT):FnOk P w K mg base CX0 3 f fd ["bare"] (spDef K):=by
 have sc:=scDef
 refine F.oks sc λcdv A outer s H vs Q E hr h=>?_
 obtain⟨l,rfl,hl,q⟩:=h
 refine ao (xbc (xset (i:=1) sc.nd rfl (Or.inl rfl) (xm PySem.F.plainAttrs_str PySem.F.slot_str_find PySem.F.type_str_find mt_find (xv 0) (xac (xgS T.g_NAME_END) xa0)))
  (xbc (xif (xor (aw op_lt (xv 1) xint (ai _)) (xor1 (hY (bA (xm PySem.F.plainAttrs_str PySem.F.slot_str_startswith PySem.F.type_str_startswith aO (xv 0) (xac xstr xa0)))))).xt (xb1 (xret xnon)) xb0)
  (xbc (xset (i:=2) sc.nd rfl (Or.inl rfl) (xcd D_words_of hr (xac (xsl bq (xv 0) (xo1 (xop bp (xv 1) (xcB aJ T.n_len PySem.boot_len (xac (xgS T.g_NAME_END) xa0)))) xo0) xa0)))
  (xbc (xif (xand (bA (xm PySem.F.plainAttrs_str PySem.F.slot_str_startswith PySem.F.type_str_startswith aO (xv 0) (xac xstr xa0))) (fv (bA (xcd D_is_name hr (xac (xsl bq (xv 0) (xo1 xint) (xo1 (xv 1))) xa0))))).xt (xb1 (xret (xtup (xac xstr (xac (xcd D_name_of hr (xac (xsl bq (xv 0) (xo1 xint) (xo1 (xv 1))) xa0)) (xac (xm PySem.F.plainAttrs_str PySem.F.slot_str_join PySem.F.type_str_join dX xstr (xac (xv 2) xa0)) xa0)))))) xb0)
  (xbc (xif (xand (bA (xcd D_is_name hr (xac (xsl bq (xv 0) (xo1 xint) (xo1 (xv 1))) xa0))) (fv (aw aD (xcB bQ T.n_len PySem.boot_len (xac (xv 2) xa0)) xint (ai _)))).xt (xb1 (xret (xtup (xac xstr (xac (xcd D_name_of hr (xac (xsl bq (xv 0) (xo1 xint) (xo1 (xv 1))) xa0)) (xac (xix aU (xv 2) xint (λ_ _=>rfl)) xa0)))))) xb0)
  (xb1 (xret xnon))))))) ?_
 refine⟨_,rfl,rfl,_,_,rfl,rfl,bigS hl,?_⟩
 have ef:=find_S l [93,58,32]
 cases hf:h7 [93,58,32] l with
 |none=>
  rw[hf] at ef
  refine⟨_,rfl,_,_,rfl,rfl,_,rfl,?_⟩
  refine ite2 (λ_=>?_) (λc=>?_)
  ·refine ite2 (λ_=>?_) (λc=>absurd rfl c)
   exact q .non H (Same.refl H) (by unfold defC;rw[hf];exact rfl)
  ·exfalso
   rw[ef] at c
   exact c (by decide)
 |some p=>
 rw[hf] at ef
 dsimp only at ef ⊢
 rw[ef]
 have hp0:(0:Int)<=(p:Int):=Int.natCast_nonneg p
 dsimp only[tSeq,av]
 refine s_if _ (t_or false (![91].isPrefixOf l) (λR h=>⟨_,rfl,_,_,rfl,rfl,_,rfl,?_⟩) (λ_ H1 s1=>t_not _ (dA l [91] hl rfl (λR' h=>⟨_,rfl,h⟩)))) (λH0 s0 c=>?_) (λH0 s0 c=>?_)
 ·rw[show decide ((p:Int) < 0)=false from decide_eq_false (by omega)];exact h H (Same.refl H)
 ·have c':¬ [91].isPrefixOf l=true:=λz=>by rw[z] at c;cases c
  exact q .non H0 s0 (by unfold defC;rw[hf];simp only[];rw[if_pos c'];exact rfl)
 have h1:[91].isPrefixOf l=true:=by
  cases z:[91].isPrefixOf l with
  |true=>rfl
  |false=>rw[z] at c;cases c
 refine⟨_,rfl,_,rfl,_,rfl,big (by decide),_,_,rfl,rfl,_,rfl,_,rfl,bigS hl,l.drop (p+3),?_,?_,λW H1 s1 hW eW=>?_⟩
 ·show [V.str (Txt.slice (S l) (some ((p:Int)+3)) none)]=_
  rw[show (p:Int)+3=((p+3:Nat):Int) by omega,d8]
 ·rw[l25];omega
 have hlen2:((l.drop 2).take (p - 2)).length<=1000000:=by rw[l33,l25];omega
 have hlen1:((l.drop 1).take (p - 1)).length<=1000000:=by rw[l33,l25];omega
 have e2:[V.str (Txt.slice (S l) (some 2) (some (p:Int)))]=[vS ((l.drop 2).take (p - 2))]:=by rw[show Txt.slice (S l) (some 2) (some (p:Int))=_ from sl_any l 2 p]
 have e1:[V.str (Txt.slice (S l) (some 1) (some (p:Int)))]=[vS ((l.drop 1).take (p - 1))]:=by rw[show Txt.slice (S l) (some 1) (some (p:Int))=_ from sl_any l 1 p]
 have hws:(l.drop (p+3)).length<=1000000:=by rw[l25];omega
 dsimp only[tSeq,av]
 refine s_if _ (iU ([91,94].isPrefixOf l) (bE ((l.drop 2).take (p - 2))) (dA l [91,94] hl rfl (λR' h=>⟨_,rfl,h⟩)) (λ_ H2 s2 R h=>?_)) (λH2 s2 c=>?_) (λH2 s2 c=>?_)
 ·exact⟨_,rfl,_,rfl,_,rfl,_,rfl,_,rfl,bigS hl,_,e2,hlen2,λH' s'=>⟨_,rfl,h H' s'⟩⟩
 ·rw[Bool.and_eq_true] at c
  refine⟨_,rfl,_,rfl,_,rfl,_,rfl,_,rfl,bigS hl,_,e2,hlen2,c.2,λH3 s3=>⟨rfl,_,rfl,S [32],W,(bj (l.drop (p+3))).map S,rfl,rfl,?_,jW _ hws,big (show (3:Nat)<=1000000 by decide),λr hr3=>?_⟩⟩
  ·exact SqL.of (by rw[(s2.trans s3) _ _ eW,pp])
  ·refine q _ _ (((s0.trans s1).trans (s2.trans s3)).trans (ac hr3 _)) ?_
   unfold defC
   rw[hf]
   simp only[]
   rw[if_neg (by rw[h1];simp),if_pos c]
   refine⟨r,rfl,?_⟩
   show upd _ _ _ _=_
   rw[aa,dZ]
   rfl
 dsimp only[tSeq,a9]
 have hsq:∀H',Same H1 H'->SqL K H' W ((bj (l.drop (p+3))).map vS):=λH' s'=>SqL.of (s' _ _ eW)
 refine s_if _ (iU (bE ((l.drop 1).take (p - 1))) (decide ((bj (l.drop (p+3))).length=1)) (λR h=>?_) (λ_ H3 s3 R h=>?_)) (λH3 s3 d=>?_) (λH3 s3 d=>?_)
 ·exact⟨_,rfl,_,rfl,_,rfl,_,rfl,_,rfl,bigS hl,_,e1,hlen1,λH' s'=>⟨_,rfl,h H' s'⟩⟩
 ·refine⟨_,rfl,_,_,rfl, .inl (hsq _ (s2.trans s3)),rfl,_,rfl,?_⟩
  rw [l6,kQ,show ((((bj (l.drop (p+3))).length:Nat):Int)==1)=decide ((bj (l.drop (p+3))).length=1) by
   rw[Bool.eq_iff_iff];simp;omega]
  exact h H3 (Same.refl H3)
 ·rw[Bool.and_eq_true] at d
  obtain⟨d1,d2⟩:=d
  have d2:=of_decide_eq_true d2
  obtain⟨x,hx⟩:=List.length_eq_one_iff.mp d2
  refine⟨_,rfl,_,rfl,_,rfl,_,rfl,_,rfl,bigS hl,_,e1,hlen1,d1,λH4 s4=>⟨_,rfl,W,_,0,vS x,rfl,rfl,hsq _ ((s2.trans s3).trans s4),by rw[hx];rfl,big (show (3:Nat)<=1000000 by decide),λr hr3=>?_⟩⟩
  refine q _ _ (((s0.trans s1).trans ((s2.trans s3).trans s4)).trans (ac hr3 _)) ?_
  unfold defC
  rw[hf]
  simp only[]
  rw[if_neg (by rw[h1];simp),if_neg (by intro z;rw[z.1,z.2] at c;cases c),if_pos ⟨d1,d2⟩]
  refine⟨r,rfl,?_⟩
  show upd _ _ _ _=_
  rw[aa,hx]
  rfl
 ·refine q _ _ ((s0.trans s1).trans (s2.trans s3)) ?_
  unfold defC
  rw[hf]
  simp only[]
  rw[if_neg (by rw[h1];simp),if_neg (by intro z;rw[z.1,z.2] at c;cases c),if_neg (by intro z;rw[z.1,decide_eq_true z.2] at d;cases d)]
  rfl
abbrev sItem:Stmt:=top 35
theorem scItem:FnScope ["bare","body","far"] ["bare"] (ad sItem):=mkS
theorem ok_item (F:Fun K "item_or_plain" "item_or_plain" sItem f fd)(T:Tx mg)(D_tidy:Def P w K mg base 2 "tidy" ["text"] jV):FnOk P w K mg base CX0 3 f fd ["bare"] (pD K):=by
 have sc:=scItem
 refine F.oks sc λcdv A outer s H vs Q E hr h=>?_
 obtain⟨l,rfl,hl,q⟩:=h
 refine ao (xbc (xset (i:=1) sc.nd rfl (Or.inl rfl) (xm PySem.F.plainAttrs_str PySem.F.slot_str_lstrip PySem.F.type_str_lstrip gj (xv 0) (xac xstr xa0)))
  (xbc (xset (i:=2) sc.nd rfl (Or.inl rfl) (xop im (xcB aJ T.n_len PySem.boot_len (xac (xv 0) xa0)) (xcB aJ T.n_len PySem.boot_len (xac (xv 1) xa0))))
  (xbc (xif (xor (bA (xm PySem.F.plainAttrs_str PySem.F.slot_str_startswith PySem.F.type_str_startswith aO (xv 1) (xac xstr xa0))) (xor1 (bA (xm PySem.F.plainAttrs_str PySem.F.slot_str_startswith PySem.F.type_str_startswith aO (xv 1) (xac xstr xa0))))).xt (xb1 (xret (xtup (xac xstr (xac (xv 2) (xac (xix gh (xv 1) xint (λ_ _=>rfl)) (xac (xcd D_tidy hr (xac (xsl bq (xv 1) (xo1 xint) xo0) xa0)) xa0))))))) xb0)
  (xb1 (xret (xtup (xac xstr (xac (xv 2) (xac (xcd D_tidy hr (xac (xv 1) xa0)) xa0))))))))) ?_
 refine⟨_,rfl,rfl,_,_,rfl,rfl,bigS hl,?_⟩
 dsimp only
 rw[show Txt.lstripChars (S l) (Str.ofString " ")=_ from fS l [32]]
 have hsplit:=gB ([32]:List Nat).contains l
 obtain⟨body,hbody⟩:∃body,body=l.dropWhile ([32]:List Nat).contains:=⟨_,rfl⟩
 rw[<- hbody] at hsplit ⊢
 have hb:body.length<=1000000:=by omega
 refine⟨_,rfl,_,rfl,bigS hl,_,rfl,_,rfl,bigS hb,_,_,rfl,rfl,?_⟩
 dsimp only[tSeq,av]
 rw[am,am,show (l.length:Int) - (body.length:Int)=((l.length - body.length:Nat):Int) by omega]
 refine s_if _ (t_or ([45,32].isPrefixOf body) ([43,32].isPrefixOf body) (dA body [45,32] hb rfl (λR' h=>⟨_,rfl,h⟩)) (λ_ H1 s1=>dA body [43,32] hb rfl (λR' h=>⟨_,rfl,h⟩))) (λH0 s0 c=>?_) (λH0 s0 c=>?_)
 ·have c':[45,32].isPrefixOf body=true ∨ [43,32].isPrefixOf body=true:=by rwa [Bool.or_eq_true] at c
  have h1:0 < body.length:=by
   rcases c' with c' |c' <;> rw[pre2] at c' <;> exact(List.getElem?_eq_some_iff.mp c'.1).1
  refine ⟨_,rfl,_,rfl,_,_,_,rfl,rfl,bigS hb,at_S h1,_,rfl,_,rfl,_,rfl,bigS hb,body.drop 2,by rw[show Txt.slice (S body) (some 2) none=_ from d8 body 2];rfl,by rw[l25];omega,
   λH1 s1=>⟨big (show (4:Nat)<=1000000 by decide),λr hr1=>?_⟩⟩
  refine q _ _ ((s0.trans s1).trans (ac hr1 _)) ?_
  unfold pf
  simp only[]
  rw[<- hbody,if_pos c']
  show upd _ _ _ _=_
  rw[aa]
  have e0:body.headD 0=body.getD 0 0:=by cases body <;> rfl
  rw[e0]
  rfl
 ·have c':¬ ([45,32].isPrefixOf body=true ∨ [43,32].isPrefixOf body=true):=by
   intro z
   rw[Bool.or_eq_false_iff] at c
   rcases z with z |z
   ·rw[z] at c;exact Bool.noConfusion c.1
   ·rw[z] at c;exact Bool.noConfusion c.2
  refine⟨_,rfl,_,rfl,body,rfl,hb,λH1 s1=>⟨big (show (3:Nat)<=1000000 by decide),λr hr1=>?_⟩⟩
  refine q _ _ ((s0.trans s1).trans (ac hr1 _)) ?_
  unfold pf
  simp only[]
  rw[<- hbody,if_neg c']
  show upd _ _ _ _=_
  rw[aa]
  rfl
abbrev sSort:Stmt:=top 30
theorem scSort:FnScope ["row","bare","level","definition"] ["row"] (ad sSort):=mkS
theorem ok_sort (F:Fun K "sort_of" "sort_of" sSort f fd)(T:Tx mg)(D_tidy:Def P w K mg base 2 "tidy" ["text"] jV)(D_rest_of_quote:Def P w K mg base 1 "rest_of_quote" ["row"] pA)(D_heading_level:Def P w K mg base 1 "heading_level" ["bare"] pB)
  (D_is_cells:Def P w K mg base 2 "is_cells" ["bare"] spIsC)(D_split_cells:Def P w K mg base 3 "split_cells" ["text"] spCells)(D_definition_of:Def P w K mg base 3 "definition_of" ["bare"] (spDef K))(D_item_or_plain:Def P w K mg base 3 "item_or_plain" ["bare"] (pD K)):
  FnOk P w K mg base CX0 4 f fd ["row"] (mE K):=by
 have sc:=scSort
 refine F.oks sc λcdv A outer s H vs Q E hr h=>?_
 obtain⟨l,rfl,hl,q⟩:=h
 refine ao (xbc (xset (i:=1) sc.nd rfl (Or.inl rfl) (xm PySem.F.plainAttrs_str PySem.F.slot_str_rstrip PySem.F.type_str_rstrip jM (xv 0) (xac xstr xa0)))
  (xbc (xif (aw aD (xv 1) xstr (ai _)) (xb1 (xret (xtup (xac xstr xa0)))) xb0)
  (xbc (xif (bA (xm PySem.F.plainAttrs_str PySem.F.slot_str_startswith PySem.F.type_str_startswith aO (xv 1) (xac xstr xa0))) (xb1 (xret (xtup (xac xstr (xac (xcd D_rest_of_quote hr (xac (xv 0) xa0)) xa0))))) xb0)
  (xbc (xif (aw aD (xv 1) (xgS T.g_FENCE) (ai _)) (xb1 (xret (xtup (xac xstr xa0)))) xb0)
  (xbc (xset (i:=2) sc.nd rfl (Or.inl rfl) (xcd D_heading_level hr (xac (xv 1) xa0)))
  (xbc (xif (aw hV (xv 2) xint (ai _)) (xb1 (xret (xtup (xac xstr (xac (xv 2) (xac (xcd D_tidy hr (xac (xsl bq (xv 1) (xo1 (xv 2)) xo0) xa0)) xa0)))))) xb0)
  (xbc (xif (bA (xcd D_is_cells hr (xac (xv 1) xa0))) (xb1 (xret (xtup (xac xstr (xac (xcd D_split_cells hr (xac (xsl bq (xv 1) (xo1 xint) (xo1 (xun ej xint))) xa0)) xa0))))) xb0)
  (xbc (xset (i:=3) sc.nd rfl (Or.inl rfl) (xcd D_definition_of hr (xac (xv 1) xa0)))
  (xbc (xif (aw op_notN (xv 3) xnon (ai _)) (xb1 (xret (xv 3))) xb0)
  (xb1 (xret (xcd D_item_or_plain hr (xac (xv 1) xa0))))))))))))) ?_
 refine⟨_,rfl,rfl,_,_,rfl,rfl,bigS hl,?_⟩
 dsimp only[tSeq,av]
 rw[show Txt.rstripChars (S l) (Str.ofString " ")=S (bareC l) from mz l [32]]
 have hbl:=bare_len l
 obtain⟨b,hb⟩:∃b,b=bareC l:=⟨_,rfl⟩
 rw[<- hb] at hbl ⊢
 have hbl:b.length<=1000000:=by omega
 have mk:∀(r:Srt) ,fP l=r->∀p H',Same H H'->SrtAt K H' p r->Q (.ref p) H':=λr e p H' s' h=>q p H' s' (by rw[e];exact h)
 refine s_if _ (t_eq b [] rfl (λR' h=>⟨_,rfl,h⟩)) (λH0 s0 c=>?_) (λH0 s0 c=>?_)
 ·have c:=of_decide_eq_true c
  refine⟨big (show (1:Nat)<=1000000 by decide),λr hr1=>mk .empty ?_ _ _ (s0.trans (ac hr1 _)) aa⟩
  unfold fP;simp only[];rw[<- hb,if_pos c]
 have c1:=of_decide_eq_false c
 dsimp only[a9]
 refine s_if _ (dA b [62] hbl rfl (λR' h=>⟨_,rfl,h⟩)) (λH1 s1 c=>?_) (λH1 s1 c2=>?_)
 ·refine⟨_,rfl,l,rfl,hl,big (show (2:Nat)<=1000000 by decide),λr hr1=>mk (.quote (ld l)) ?_ _ _ ((s0.trans s1).trans (ac hr1 _)) aa⟩
  unfold fP;simp only[];rw[<- hb,if_neg c1,if_pos c]
 have c2:=Bool.eq_false_iff.mp c2
 dsimp only[a9]
 refine s_if _ (t_eq b [126,126,126] rfl (λR' h=>⟨_,rfl,h⟩)) (λH2 s2 c=>?_) (λH2 s2 c3=>?_)
 ·have c:=of_decide_eq_true c
  refine⟨big (show (1:Nat)<=1000000 by decide),λr hr1=>mk .fence ?_ _ _ (((s0.trans s1).trans s2).trans (ac hr1 _)) aa⟩
  unfold fP;simp only[];rw[<- hb,if_neg c1,if_neg c2,if_pos c]
 have c3:=of_decide_eq_false c3
 dsimp only[a9]
 have s02:=(s0.trans s1).trans s2
 refine⟨_,rfl,b,rfl,hbl,?_⟩
 refine⟨_,rfl,_,_,rfl,rfl,_,rfl,?_⟩
 refine ite2 (λc=>?_) (λc4=>?_)
 ·have c:=of_decide_eq_true c
  refine⟨_,rfl,_,rfl,_,rfl,_,rfl,_,rfl,bigS hbl,b.drop (eH b),by rw[d8];rfl,by rw[l25];omega,λH3 s3=>⟨big (show (3:Nat)<=1000000 by decide),λr hr1=>mk (.heading (eH b) (fx (b.drop (eH b)))) ?_ _ _ ((s02.trans s3).trans (ac hr1 _)) aa⟩⟩
  unfold fP;simp only[];rw[<- hb,if_neg c1,if_neg c2,if_neg c3,if_pos (by omega)]
 have c4:¬ eH b > 0:=by
  have:=of_decide_eq_false (Bool.eq_false_iff.mpr c4)
  omega
 dsimp only[a9]
 refine⟨_,rfl,b,rfl,hbl,_,rfl,?_⟩
 refine ite2 (λc=>?_) (λc5=>?_)
 ·have h2:2<=b.length:=by
   unfold bY at c
   rw[Bool.and_eq_true,Bool.and_eq_true] at c
   exact of_decide_eq_true c.1.1
  refine⟨_,rfl,_,rfl,_,rfl,_,rfl,_,rfl,bigS hbl,(b.drop 1).take (b.length - 2),?_,by rw[l33,l25];omega,λr H3 s3 hr3 er=>⟨big (show (2:Nat)<=1000000 by decide),λp hp=>?_⟩⟩
  ·show [V.str (Txt.slice (S b) (some 1) (some (-1)))]=_
   rw[gv,pq b h2]
  ·have hrp:r≠p:=λz=>by rw[<- z,er] at hp;cases hp
   refine mk (.cells (jR ((b.drop 1).take (b.length - 2)))) ?_ _ _ ((s02.trans s3).trans (ac hp _)) ⟨r,aa,by rw[af hrp];exact er⟩
   unfold fP;simp only[];rw[<- hb,if_neg c1,if_neg c2,if_neg c3,if_neg c4,if_pos c]
 dsimp only[a9]
 refine⟨_,rfl,b,rfl,hbl,λv H3 s3 hv=>?_⟩
 refine⟨_,rfl,rfl,_,rfl,?_⟩
 have es:fP l=match defC b with |some d=>d |none=>pf b:=by
  unfold fP;simp only[];rw[<- hb,if_neg c1,if_neg c2,if_neg c3,if_neg c4,if_neg c5]
  all_goals (cases defC b <;> rfl)
 cases hd:defC b with
 |some d=>
  rw[hd] at hv es
  obtain⟨p,rfl,hp⟩:=hv
  exact⟨_,rfl,mk d es p H3 (s02.trans s3) hp⟩
 |none=>
  rw[hd] at hv es
  cases hv
  exact⟨_,rfl,b,rfl,hbl,λp H4 s4 h4=>mk _ es p H4 ((s02.trans s3).trans s4) h4⟩
end
section
variable {K:PySem.W.Frag}{σ:St}{H:Hp}{ta tb:TE}{a b:List Nat}
theorem ev_eq (h1 : Ev ta σ H (vS a)) (h2 : Ev tb σ H (vS b)) : Ev (tOp rEq ta tb) σ H (.bl (decide (a = b))) := fun R r => h1 _ (h2 _ ⟨rfl,by
 have:decide (vS a=vS b)=decide (a=b):=decide_eq_decide.mpr ⟨λh=>hZ (V.str.inj h),λh=>by rw[h]⟩
 rw[this]
 exact r⟩)
theorem ev_ne (h1 : Ev ta σ H (vS a)) (h2 : Ev tb σ H (vS b)) : Ev (tOp rNe ta tb) σ H (.bl (decide (a ≠ b))) := fun R r => h1 _ (h2 _ ⟨rfl,by
 have:(!decide (vS a=vS b))=decide (a≠b):=by
  rw[<- decide_not]
  exact decide_eq_decide.mpr ⟨λh e=>h (by rw[e]),λh e=>h (hZ (V.str.inj e))⟩
 rw[this]
 exact r⟩)
theorem pV {p q : Bool} (h1 : Ev ta σ H (.bl p)) (h2 : p = true -> Ev tb σ H (.bl q)) : Ev (oG ta tb) σ H (.bl (p && q)) := fun R r => h1 _ ⟨p,rfl,by
 cases p with
 |false=>exact iteF r
 |true=>exact iteT (h2 rfl _ r)⟩
theorem ev_s2 {f:Str->Str->V}{y:Str}(h:Ev ta σ H (vS a))(hl:a.length<=1000000):Ev (tBM K "str" (rS2 f) ta (aE (tC (.str y)) tNil)) σ H (f (S a) y):=λR r=>h _ ⟨rfl,_,_,rfl,rfl,bigS hl,r⟩
end
section
abbrev gG:Stmt:=top 24
theorem oh:FnScope ["text"] ["text"] (ad gG):=mkS
def fG:Sp:=λvs H Q _=>∃l:List Nat,vs=[vS l]/\l.length<=1000000/\Q (vS (Lm.escC l)) H
theorem lF (F:Fun K "cell_text" "cell_text" gG f fd):FnOk P w K mg base CX0 1 f fd ["text"] fG:=by
 have sc:=oh
 refine F.oks sc λcdv A outer s H vs Q E hr h=>?_
 obtain⟨l,rfl,hl,q⟩:=h
 refine ao (xb1 (xret (oZ (xv 0) (by decide +kernel) (by decide +kernel)))) ?_
 refine⟨_,rfl,_,rfl,by rw[am];exact hl,?_⟩
 rw[show Txt.replace (S l) (Str.ofString "|") (Str.ofString "\\|")=S (Lm.escC l) from kZ 124 [92,124] l]
 exact q
abbrev sRule:Stmt:=top 25
theorem scRule:FnScope ["text","dashes"] ["text"] (ad sRule):=mkS
def pW:Sp:=λvs H Q _=>∃l:List Nat,vs=[vS l]/\l.length<=1000000/\∀H',Same H H'->Q (.bl (d9 l)) H'
theorem ok_rule (F:Fun K "is_rule" "is_rule" sRule f fd):FnOk P w K mg base CX0 1 f fd ["text"] pW:=by
 have sc:=scRule
 refine F.oks sc λcdv A outer s H vs Q E hr h=>?_
 obtain⟨l,rfl,hl,q⟩:=h
 refine ao (xbc (xset (i:=1) sc.nd rfl (Or.inl rfl) (xifE (bA (xm PySem.F.plainAttrs_str PySem.F.slot_str_endswith PySem.F.type_str_endswith kU (xv 0) (xac xstr xa0))) (xsl bq (xv 0) xo0 (xo1 (xun ej xint))) (xv 0)))
  (xb1 (xret (gm (xcmp jx (xv 1) xstr (ai _)) (xone (xcmp aD (xm PySem.F.plainAttrs_str PySem.F.slot_str_strip PySem.F.type_str_strip mt_strip (xv 1) (xac xstr xa0)) xstr (ai _))))))) ?_
 have key:∀d,d=lB l->Ev (oG (tOp rNe (tVar 1) (tC (.str (Str.ofString "")))) (tOp rEq (tBM K "str" (rS2 λz y => .str (Txt.stripChars z y)) (tVar 1) (aE (tC (.str (Str.ofString "-"))) tNil)) (tC (.str (Str.ofString ""))))) [some (vS l),some (vS d)] H (.bl (d9 l)):=by
  intro d hd
  have hdl:d.length<=1000000:=by
   rw[hd];unfold lB
   split
   ·rw[List.length_dropLast];omega
   ·exact hl
  have e:d9 l=(decide (d≠[])&&decide ((Txt.stripChars (S d) (S [45])).cps.toList=[])):=by
   rw[Bool.eq_iff_iff,mH,<- hd,Bool.and_eq_true,decide_eq_true_iff,decide_eq_true_iff,<- pJ]
   refine and_congr_right λ_=>⟨λz=>by rw[z],λz=>?_⟩
   rw[<- S_of (Txt.stripChars (S d) (S [45])),z]
  rw[e]
  refine pV (ev_ne (ev_v rfl) (aN (b:=[]) rfl)) λ_=>ev_eq ?_ (aN (b:=[]) rfl)
  rw[show vS (Txt.stripChars (S d) (S [45])).cps.toList=V.str (Txt.stripChars (S d) (S [45])) by show V.str (S _)=_;rw[S_of]]
  exact ev_s2 (f:=λz y => .str (Txt.stripChars z y)) (ev_v rfl) hdl
 refine⟨_,rfl,rfl,_,_,rfl,rfl,bigS hl,_,rfl,?_⟩
 rw[show Txt.endswith (S l) (Str.ofString ":")=decide (l.getLast? = some 58) from ends_S l 58]
 refine ite2 (λe=>?_) (λe=>?_)
 ·refine iX (σ:=[some (vS l),none]) (H:=H) hl (ev_v (k:=0) rfl) iV (iW (lf (i:=1) (g:=λi => .int (-i)) ev_c rfl)) (mF l) _ ?_
  exact key l.dropLast (if_pos (of_decide_eq_true e)).symm _ (q H (Same.refl H))
 ·refine⟨_,rfl,?_⟩
  exact key l (if_neg (λz=>e (decide_eq_true z))).symm _ (q H (Same.refl H))
end
end K11
namespace L2
open PySem PySem.Spec PyProof.Rows
open Builtin Builtin.Str
end L2
namespace Lm
open PySem PySem.Spec L2 Lw PyProof.Rows Builtin Builtin.Str
end Lm
namespace Lw
open PySem L2 Lm
theorem gH (l:List Nat):(aR l).length<=2 * l.length:=by
 unfold aR
 induction l with
 |nil=>exact l7 _
 |cons x l ih=>
  rw[l59,l5,l8]
  have:(grd x).length<=2:=by unfold grd;split <;> simp
  omega
theorem ke {l:List Nat}(h:Asc l):Asc (aR l):=λc hc=>by
 obtain⟨x,hx,hc⟩:=List.mem_flatMap.mp hc
 unfold grd at hc
 split at hc
 ·rcases l9.mp hc with z |z
  ·omega
  ·rw[l20.mp z];exact h x hx
 ·rw[l20.mp hc];exact h x hx
theorem kf (b:Bool)(t:List Nat):(aK b t).length<=t.length+1:=by
 unfold aK
 split
 ·exact l7 _
 ·omega
theorem kg {b:Bool}{t:List Nat}(h:Asc t):Asc (aK b t):=by
 unfold aK
 split
 ·intro c hc
  rcases l9.mp hc with z |z
  ·omega
  ·exact h c z
 ·exact h
theorem mN (p:P1):(raw1 p).length<=2 * sz1 p:=by
 cases p with
 |plain s=>exact gH _
 |code s=>show ([96]++s.cps.toList++[96]).length<=2 * (s.cps.toList.length+2);rw[l5,l5];show 1+_+1<=_;omega
 |link w n=>
  show ([91]++bn w.cps.toList++aR w.cps.toList++[93,40]++n.cps.toList++[41]).length<=2 * (w.cps.toList.length+n.cps.toList.length+20)
  have h1:=gH w.cps.toList
  have h2:(bn w.cps.toList).length<=1:=by unfold bn;split <;> simp
  simp only[l5,l8,l23]
  omega
 |note n=>show ([91,94]++n.cps.toList++[93]).length<=2 * (n.cps.toList.length+20);simp only[l5,l8,l23];omega
theorem aI (l:List Nat)(h:l.all (λc=>decide (c < 128))=true):Asc l:=λc hc=>of_decide_eq_true (l47.mp h c hc)
theorem mO {p:P1}(h:Ok1 p):Asc (raw1 p):=by
 cases p with
 |plain s=>exact ke h.1
 |code s=>exact ay (ay (aI _ rfl) h) (aI _ rfl)
 |link w n=>
  have h2:Asc (bn w.cps.toList):=by unfold bn;split <;> exact aI _ rfl
  exact ay (ay (ay (ay (ay (aI _ rfl) h2) (ke h.1)) (aI _ rfl)) h.2) (aI _ rfl)
 |note n=>exact ay (ay (aI _ rfl) h) (aI _ rfl)
theorem mP:∀{b:Bool} {ps:List P1},(∀p∈ps,Ok1 p)->(de b ps).length<=3 * (ps.map sz1).sum/\Asc (de b ps)
 |_,[],_=>⟨l7 _,λ_ z=>nomatch z⟩
 |b,p::r,h=>by
  obtain⟨i1,i2⟩:=mP (b:=cY (.one p)) (ps:=r) λq hq=>h q (l15 _ hq)
  have hp:=h p l13
  have h1:=mN p
  have h2:=kf b (raw1 p)
  have h3:=pK hp
  refine⟨?_,ay (kg (mO hp)) i2⟩
  show (aK b (raw1 p)++de _ r).length<=_
  rw[l5,l19,l35]
  omega
theorem rawP_ok {p:PC}(h:OkC p):(rawP p).length<=3 * szC p/\Asc (rawP p)/\1<=szC p:=by
 cases p with
 |one p=>
  have h1:=mN p
  exact⟨by show (raw1 p).length<=3 * sz1 p;omega,mO h,pK h⟩
 |strong ps=>
  obtain⟨i1,i2⟩:=mP (b:=false) h
  refine⟨?_,ay (ay (aI _ rfl) i2) (aI _ rfl),by show 1<=_+2;omega⟩
  show ([42]++de false ps++[42]).length<=3 * ((ps.map sz1).sum+2)
  rw[l5,l5]
  show 1+_+1<=_
  omega
theorem pX:∀{b:Bool} {D:List PC},(∀p∈D,OkC p)->(raws b D).length<=4 * (D.map szC).sum/\Asc (raws b D)
 |_,[],_=>⟨l7 _,λ_ z=>nomatch z⟩
 |b,p::r,h=>by
  obtain⟨i1,i2⟩:=pX (b:=cY p) (D:=r) λq hq=>h q (l15 _ hq)
  obtain⟨h1,h2,h3⟩:=rawP_ok (h p l13)
  have h4:=kf b (rawP p)
  refine⟨?_,ay (kg h2) i2⟩
  show (aK b (rawP p)++raws _ r).length<=_
  rw[l5,l19,l35]
  omega
def Ls {α:Type}(R:Addr->α->Prop):List Addr->List α->Prop
 | [],[]=>True
 |a::as,x::xs=>R a x/\Ls R as xs
 |_,_=>False
section
variable {α:Type}{R R':Addr->α->Prop}{as:List Addr}{xs:List α}
theorem Ls.mono (h:Ls R as xs)(k:∀a x,R a x->R' a x):Ls R' as xs:=by
 induction as generalizing xs with
 |nil=>
  cases xs with
  |nil=>trivial
  |cons _ _=>exact h.elim
 |cons a as ih=>
  cases xs with
  |nil=>exact h.elim
  |cons x xs=>exact⟨k _ _ h.1,ih h.2⟩
theorem Ls.len (h:Ls R as xs):as.length=xs.length:=by
 induction as generalizing xs with
 |nil=>
  cases xs with
  |nil=>rfl
  |cons _ _=>exact h.elim
 |cons a as ih=>
  cases xs with
  |nil=>exact h.elim
  |cons x xs=>exact congrArg (· + 1) (ih h.2)
theorem Ls.get {i:Nat}{v:V}(h:Ls R as xs)(hv:(as.map V.ref)[i]? = some v):∃a x,v = .ref a/\xs[i]? = some x/\xs.drop i=x::xs.drop (i+1)/\R a x:=by
 induction as generalizing xs i with
 |nil=>cases hv
 |cons a as ih=>
  cases xs with
  |nil=>exact h.elim
  |cons x xs=>
   cases i with
   |zero=>cases hv;exact⟨a,x,rfl,rfl,rfl,h.1⟩
   |succ i=>
    obtain⟨a',x',h1,h2,h3,h4⟩:=ih (i:=i) h.2 (by simpa using hv)
    exact⟨a',x',h1,by simpa using h2,by simpa using h3,h4⟩
theorem Ls.snoc {a:Addr}{x:α}(h:Ls R as xs)(k:R a x):Ls R (as++[a]) (xs++[x]):=by
 induction as generalizing xs with
 |nil=>
  cases xs with
  |nil=>exact⟨k,trivial⟩
  |cons _ _=>exact h.elim
 |cons _ _ ih=>
  cases xs with
  |nil=>exact h.elim
  |cons _ _=>exact⟨h.1,ih h.2⟩
end
def LAt {α:Type}(R:Hp->Addr->α->Prop)(H:Hp)(l:Addr)(xs:List α):Prop:=∃as:List Addr,H l=some (.lst (as.map V.ref))/\Ls (R H) as xs
def MoR {α:Type}(R:Hp->Addr->α->Prop):Prop:=∀G G' a x,Same G G'->R G a x->R G' a x
theorem LAt.same {α:Type}{R:Hp->Addr->α->Prop}(m:MoR R){H H':Hp}{l:Addr}{xs:List α}(s:Same H H')(h:LAt R H l xs):LAt R H' l xs:=
 let ⟨as,e,k⟩:=h;⟨as,s _ _ e,k.mono λa x=>m _ _ a x s⟩
theorem gJ {α:Type}{R:Hp->Addr->α->Prop}(m:MoR R):MoR (LAt R):=λ_ _ _ _ s h=>h.same m s
def PL (c:Cp)(H:Hp)(l:Addr)(ps:List PC):Prop:=∃as:List Addr,H l=some (.lst (as.map V.ref))/\PCs c H as ps
theorem gK {c:Cp}:MoR (PL c):=λ_ _ _ _ s ⟨as,e,k⟩=>⟨as,s _ _ e,k.same s⟩
structure EnF (β:Type) where
 sign:Bool
 parts:List PC
 within:List β
def En:Nat->Type
 |0=>Empty
 |n+1=>EnF (En n)
def bI (b:Bool):List Nat:=if b then [43] else [45]
def dE:(n:Nat)->En n->PyData
 |0,e=>nomatch e
 |n+1,e => .tuple [.str (S (bI (EnF.sign e))), .list ((EnF.parts e).map dP), .list ((EnF.within e).map (dE n))]
def bo:(n:Nat)->List Nat->List (En n)->List (List Nat)
 |0,_,_=>[]
 |n+1,ah,es=>es.flatMap λe=>(ah++bI (EnF.sign e)++[32]++raws false (EnF.parts e))::bo n (ah++[32,32]) (EnF.within e)
structure Cb where
 cp:Cp
 Heading:Addr
 Para:Addr
 Literal:Addr
 Quote:Addr
 Naming:Addr
 Noting:Addr
 Entry:Addr
 Listing:Addr
 Table:Addr
inductive BkF (β:Type) where
 |heading (n:Nat) (ps:List PC)
 |para (ps:List PC)
 |lst (es:List (En 6))
 |table (hd:List (List PC)) (sd:List Bool) (ls:List (List (List PC)))
 |lit (ls:List (List Nat))
 |quote (bs:List β)
 |name (n t:List Nat)
 |note (n:List Nat) (ps:List PC)
def Bl:Nat->Type
 |0=>BkF Empty
 |n+1=>BkF (Bl n)
def bU (b:Bool):List Nat:=if b then [114,105,103,104,116] else [108,101,102,116]
def bF (cs:List (List PC)):PyData := .list (cs.map λps => .list (ps.map dP))
def dBF {β:Type}(f:β->PyData):BkF β->PyData
 | .heading n ps => .tuple [.str "heading", .int n, .list (ps.map dP)]
 | .para ps => .tuple [.str "para", .list (ps.map dP)]
 | .lst es => .tuple [.str "list", .list (es.map (dE 6))]
 | .table hd sd ls => .tuple [.str "table",bF hd, .list (sd.map λb => .str (S (bU b))), .list (ls.map bF)]
 | .lit ls => .tuple [.str "literal", .list (ls.map λl => .str (S l))]
 | .quote bs => .tuple [.str "quote", .list (bs.map f)]
 | .name n t => .tuple [.str "name", .str (S n), .str (S t)]
 | .note n ps => .tuple [.str "note", .str (S n), .list (ps.map dP)]
def dB:(n:Nat)->Bl n->PyData
 |0,b=>dBF (λz:Empty=>nomatch z) b
 |n+1,b=>dBF (dB n) b
def fb (r:List Nat):List Nat:=if r=[] then [62] else [62,32]++r
def betw:List (List (List Nat))->List (List Nat)
 | []=>[]
 |r::rs=>r++rs.flatMap λq=>[]::q
def bR (ps:List PC):List Nat:=Lm.escC (if d9 (raws false ps) then 92::raws false ps else raws false ps)
def bZ (ts:List (List Nat)):List Nat:=[124]++ts.flatMap λt=>if t=[] then [32,124] else [32]++t++[32,124]
def bi (cs:List (List PC)):List Nat:=bZ (cs.map bR)
def ca (sd:List Bool):List Nat:=bZ (sd.map λb=>if b then [45,45,58] else [45,45,45])
def fM {β:Type}(plain:List Nat->Bool)(f:β->List (List Nat)):BkF β->List (List Nat)
 | .heading n ps=>[List.replicate n 61++[32]++raws false ps]
 | .para ps=>[if plain (raws false ps) then raws false ps else 92::raws false ps]
 | .lst es=>bo 6 [] es
 | .table hd sd ls=>if hd=[] then ls.map bi else [bi hd,ca sd]++ls.map bi
 | .lit ls=>[[126,126,126]]++ls++[[126,126,126]]
 | .quote bs=>if bs.isEmpty then [[62]] else (betw (bs.map f)).map fb
 | .name n t=>[[91]++n++[93,58,32]++t]
 | .note n ps=>[[91,94]++n++[93,58,32]++raws false ps]
def cC (plain:List Nat->Bool):(n:Nat)->Bl n->List (List Nat)
 |0,b=>fM plain (λz:Empty=>nomatch z) b
 |n+1,b=>fM plain (cC plain n) b
def EAt (c:Cb):(n:Nat)->Hp->Addr->En n->Prop
 |0,_,_,e=>nomatch e
 |n+1,H,a,e=>∃dx lp le,H a=some (.ins c.Entry dx [("sign",vS (bI (EnF.sign e))),("parts", .ref lp),("entries", .ref le)])/\PL c.cp H lp (EnF.parts e)/\LAt (EAt c n) H le (EnF.within e)
theorem gM {c:Cb}:∀n:Nat,MoR (EAt c n)
 |0=>λ_ _ _ e=>nomatch e
 |n+1=>λ_ _ _ _ s ⟨dx,lp,le,e,h1,h2⟩=>⟨dx,lp,le,s _ _ e,gK _ _ _ _ s h1,h2.same (gM n) s⟩
def BAtF {β:Type}(c:Cb)(R:Hp->Addr->β->Prop)(H:Hp)(a:Addr):BkF β->Prop
 | .heading n ps=>∃dx l,H a=some (.ins c.Heading dx [("level", .int n),("parts", .ref l)])/\PL c.cp H l ps
 | .para ps=>∃dx l,H a=some (.ins c.Para dx [("parts", .ref l)])/\PL c.cp H l ps
 | .lst es=>∃dx l,H a=some (.ins c.Listing dx [("entries", .ref l)])/\LAt (EAt c 6) H l es
 | .table hd sd ls=>∃dx lh lsd ll,H a=some (.ins c.Table dx [("head", .ref lh),("sides", .ref lsd),("lines", .ref ll)])/\LAt (PL c.cp) H lh hd/\H lsd=some (.lst (sd.map λb=>vS (bU b)))/\LAt (LAt (PL c.cp)) H ll ls
 | .lit ls=>∃dx l,H a=some (.ins c.Literal dx [("lines", .ref l)])/\H l=some (.lst (ls.map vS))
 | .quote bs=>∃dx l,H a=some (.ins c.Quote dx [("blocks", .ref l)])/\LAt R H l bs
 | .name n t=>∃dx,H a=some (.ins c.Naming dx [("name",vS n),("target",vS t)])
 | .note n ps=>∃dx l,H a=some (.ins c.Noting dx [("name",vS n),("parts", .ref l)])/\PL c.cp H l ps
theorem pY {β:Type}{c:Cb}{R:Hp->Addr->β->Prop}(m:MoR R):MoR (BAtF c R):=λG G' a b s h=>by
 cases b with
 |heading n ps=>obtain⟨dx,l,e,k⟩:=h;exact⟨dx,l,s _ _ e,gK _ _ _ _ s k⟩
 |para ps=>obtain⟨dx,l,e,k⟩:=h;exact⟨dx,l,s _ _ e,gK _ _ _ _ s k⟩
 |lst es=>obtain⟨dx,l,e,k⟩:=h;exact⟨dx,l,s _ _ e,k.same (gM 6) s⟩
 |table hd sd ls=>obtain⟨dx,l1,l2,l3,e,k1,k2,k3⟩:=h;exact⟨dx,l1,l2,l3,s _ _ e,k1.same gK s,s _ _ k2,k3.same (gJ gK) s⟩
 |lit ls=>obtain⟨dx,l,e,k⟩:=h;exact⟨dx,l,s _ _ e,s _ _ k⟩
 |quote bs=>obtain⟨dx,l,e,k⟩:=h;exact⟨dx,l,s _ _ e,k.same m s⟩
 |name n t=>obtain⟨dx,e⟩:=h;exact⟨dx,s _ _ e⟩
 |note n ps=>obtain⟨dx,l,e,k⟩:=h;exact⟨dx,l,s _ _ e,gK _ _ _ _ s k⟩
def BAt (c:Cb):(n:Nat)->Hp->Addr->Bl n->Prop
 |0,H,a,b=>BAtF c (λ_ _ (z:Empty)=>nomatch z) H a b
 |n+1,H,a,b=>BAtF c (BAt c n) H a b
theorem cJ {c:Cb}:∀n:Nat,MoR (BAt c n)
 |0=>pY λ_ _ _ z=>nomatch z
 |n+1=>pY (cJ n)
def RowsOk (rs:List (List Nat)):Prop:=rs.length<=100000/\∀r∈rs,r.length<=100000/\Asc r
structure OkPs (ps:List PC):Prop where
 len:ps.length<=1000
 ok:∀p∈ps,OkC p
 sum:(ps.map szC).sum<=20000
theorem OkPs.r2 {ps:List PC}(h:OkPs ps):∀p∈ps,R2 p:=r2_of h.ok (by have:=h.sum;omega)
def OkCs (cs:List (List PC)):Prop:=cs.length<=1000/\∀ps∈cs,OkPs ps
def OkE:(n:Nat)->En n->Prop
 |0,e=>nomatch e
 |n+1,e=>OkPs (EnF.parts e)/\(EnF.within e).length<=1000/\∀x∈EnF.within e,OkE n x
def OkBF {β:Type}(ok:β->Prop):BkF β->Prop
 | .heading n ps=>n<=3/\OkPs ps
 | .para ps=>OkPs ps
 | .lst es=>es.length<=1000/\∀e∈es,OkE 6 e
 | .table hd sd ls=>OkCs hd/\sd.length<=1000/\ls.length<=1000/\∀l∈ls,OkCs l
 | .lit ls=>ls.length<=1000/\∀l∈ls,Asc l/\l.length<=1000
 | .quote bs=>bs.length<=1000/\∀b∈bs,ok b
 | .name n t=>(Asc n/\n.length<=1000)/\Asc t/\t.length<=1000
 | .note n ps=>(Asc n/\n.length<=1000)/\OkPs ps
def OkB:(n:Nat)->Bl n->Prop
 |0,b=>OkBF (λz:Empty=>nomatch z) b
 |n+1,b=>OkBF (OkB n) b
theorem ls_of {α:Type}{R:Addr->α->Prop}:∀{as:List Addr} {xs:List α},as.length=xs.length->(∀(i:Nat) a x,as[i]? = some a->xs[i]? = some x->R a x)->Ls R as xs
 | [],[],_,_=>trivial
 |a::as,x::xs,hl,h=>⟨h 0 a x rfl rfl,ls_of (by simpa using hl) λi b y hb hy=>h (i+1) b y (by simpa using hb) (by simpa using hy)⟩
theorem pZ {K:PySem.W.Frag}{a:Addr}{xs:List V}{k:Nat}{fr:List Nat}{g:TG}{tt:TT}{te:TE}{σ:St}{H0:Hp}{Q:Addr->Hp->Prop}(R:Nat->Addr->Hp->Prop)(hR:∀i b G G',Same G G'->R i b G->R i b G')(hx:SqL K H0 a xs)(hl:xs.length<=1000000)
  (ht:∀(i:Nat) x,xs[i]? = some x->∀H',Same H0 H'->∀(C:V->Hp->Prop)(N:Hp->Prop),(∀b H4,Same H' H4->H' b=none->R i b (dif H' H4)->C (.ref b) H4) →
   g x (nfS k fr σ) H' λσ2 H2=>nfLe k fr σ σ2/\tt σ2 H2 λb H3=>if b=true then te σ2 H3 C else N H3)
  (hq:∀D H' (bs:List Addr),H0 D=none->Same H0 H'->H' D=some (.lst (bs.map V.ref))->bs.length=xs.length->(∀(i:Nat) b,bs[i]? = some b->R i b (dif H0 H'))->Q D H'):rLC k fr g tt te σ (Itl K a) H0 Q:=by
 intro D hD
 refine⟨λi m acc H=>m=xs.length - i/\i<=xs.length/\Same H0 H/\H D=some (.lst acc)/\∃bs:List Addr,acc=bs.map V.ref/\bs.length=i/\NewQ H0 [D] H λG=>∀(j:Nat) b,bs[j]? = some b->R j b G,⟨xs.length,by simp,l14 _,ac hD _,aa,[],rfl,rfl,NewQ.triv λj b h=>by simp at h⟩,?_⟩
 rintro i m acc H ⟨rfl,hi,sm,hDa,bs,rfl,hbl,hn⟩
 refine⟨hDa,?_⟩
 by_cases hlt:i < xs.length
 ·refine .inr ⟨⟨xs,xs[i],sm.seq hx,by simp[hlt]⟩,λx H' y=>?_⟩
  obtain⟨e,y⟩:=y
  rw[e]
  refine ht i x (y xs (sm.seq hx)) _ sm _ _ λb H4 s4 hb rb=>?_
  refine⟨s4 _ _ hDa,by rw[l6,sizeLine_eq];omega,xs.length - (i+1),by omega,rfl,hlt,au hD (sm.trans s4),aa,bs++[b],by rw[l16];rfl,by rw[l5,hbl];rfl,?_⟩
  refine NewQ.upd ?_ l13
  refine NewQ.join (hn.same s4) (NewQ.of (H3:=H) (R:=R i b) sm (λb' hb'=>by rw[l20.mp hb',hDa];exact λz=>nomatch z) rb) (λG G' s h j b' hj=>hR _ _ _ _ s (h j b' hj)) (λG G' s h=>hR _ _ _ _ s h) λG h1 h2 j b' hj=>?_
  by_cases hji:j < bs.length
  ·rw[List.getElem?_append_left hji] at hj
   exact h1 j b' hj
  ·rw[List.getElem?_append_right (by omega)] at hj
   obtain⟨hj0,_⟩:=List.getElem?_eq_some_iff.mp hj
   have hje:j=i:=by simp at hj0;omega
   subst hje
   rw[hbl,Nat.sub_self] at hj
   cases hj
   exact h2
 ·have e:i=xs.length:=by omega
  subst e
  exact .inl ⟨⟨xs,sm.seq hx,l7 _⟩,hq D H bs hD sm hDa hbl (hn.dif λG G' s h j b' hj=>hR _ _ _ _ s (h j b' hj))⟩
end Lw
namespace K11
open PySem L2 Lm Lw
structure TxB (K:PySem.W.Frag)(mg:Str->Option Value)(c:Cb)(BT:Addr):Prop extends TxR K mg c.cp BT where
 g_FENCE:∃t,mg "FENCE"=some (.str (S [126,126,126]) t)
 n_enumerate:mg "enumerate"=none
 o_Heading:Inst K c.Heading
 o_Para:Inst K c.Para
 o_Literal:Inst K c.Literal
 o_Quote:Inst K c.Quote
 o_Naming:Inst K c.Naming
 o_Noting:Inst K c.Noting
 o_Entry:Inst K c.Entry
 o_Listing:Inst K c.Listing
 o_Table:Inst K c.Table
 a_Heading_level:NoAttr K c.Heading "level"
 a_Heading_parts:NoAttr K c.Heading "parts"
 a_Para_parts:NoAttr K c.Para "parts"
 a_Literal_lines:NoAttr K c.Literal "lines"
 a_Quote_blocks:NoAttr K c.Quote "blocks"
 a_Naming_name:NoAttr K c.Naming "name"
 a_Naming_target:NoAttr K c.Naming "target"
 a_Noting_name:NoAttr K c.Noting "name"
 a_Noting_parts:NoAttr K c.Noting "parts"
 a_Entry_sign:NoAttr K c.Entry "sign"
 a_Entry_parts:NoAttr K c.Entry "parts"
 a_Entry_entries:NoAttr K c.Entry "entries"
 a_Listing_entries:NoAttr K c.Listing "entries"
 a_Table_head:NoAttr K c.Table "head"
 a_Table_sides:NoAttr K c.Table "sides"
 a_Table_lines:NoAttr K c.Table "lines"
section
variable {c:Cb}{BT:Addr}
def bV (C:Addr)(fl:Str):Sp:=λvs H Q _=>∃x dx l xs,vs=[.ref x, .ref l]/\H x=some (.ins C dx [])/\H l=some (.lst xs)/\∀p H',H p=none->KeepX x H H'->H' p=some (.lst xs)->H' x=some (.ins C dx [(fl, .ref p)])->Q .non H'
def dH (C:Addr)(f1 f2:Str):Sp:=λvs H Q _=>∃x dx v l xs,vs=[.ref x,v, .ref l]/\H x=some (.ins C dx [])/\H l=some (.lst xs)/\∀p H',H p=none->KeepX x H H'->H' p=some (.lst xs)->H' x=some (.ins C dx [(f1,v),(f2, .ref p)])->Q .non H'
def lG (C:Addr):Sp:=λvs H Q _=>∃x dx v l xs m ys,vs=[.ref x,v, .ref l, .ref m]/\H x=some (.ins C dx [])/\H l=some (.lst xs)/\H m=some (.lst ys)/\∀p r H',H p=none->H r=none->KeepX x H H'->H' p=some (.lst xs)->H' r=some (.lst ys)->H' x=some (.ins C dx [("sign",v),("parts", .ref p),("entries", .ref r)])->Q .non H'
theorem b6 {x p:Addr}{H:Hp}{o:HO}(h:H p=none):KeepX x H (upd H p o):=λb o' _ e=>(af λz=>by rw[z,h] at e;cases e).trans e
theorem keep_upd {x:Addr}{H:Hp}{o:HO}:KeepX x H (upd H x o):=λb o' nb e=>(af nb).trans e
theorem aB {x b:Addr}{H H':Hp}(k:KeepX x H H')(hb:b≠x)(h:H' b=none):H b=none:=by
 cases e:H b with
 |none=>rfl
 |some o=>rw[k b o hb e] at h;cases h
abbrev ck:Stmt:=meth 38 0
abbrev fc:Stmt:=meth 39 0
abbrev cm:Stmt:=meth 40 0
abbrev dI:Stmt:=meth 41 0
abbrev cQ:Stmt:=meth 42 0
abbrev cR:Stmt:=meth 43 0
abbrev dJ:Stmt:=meth 47 0
abbrev cq:Stmt:=meth 48 0
abbrev dL:Stmt:=meth 53 0
theorem i7:FnScope p28 p28 (ad ck):=mkS
theorem kh:FnScope p29 p29 (ad cR):=mkS
theorem kj:FnScope p30 p30 (ad cQ):=mkS
theorem oj:FnScope p11 p11 (ad fc):=mkS
theorem i8:FnScope p17 p17 (ad cm):=mkS
theorem lH:FnScope p31 p31 (ad dI):=mkS
theorem i9:FnScope p32 p32 (ad cq):=mkS
theorem lI:FnScope p33 p33 (ad dJ):=mkS
theorem lJ:FnScope p34 p34 (ad dL):=mkS
theorem lK (F:Fun K "__init__" "Para.__init__" fc f fd)(T:TxB K mg c BT):FnOk P w K mg base CX0 1 f fd p11 (bV c.Para "parts"):=by
 have sc:=oj
 refine F.oks sc λcdv A outer s H vs Q E hr h=>?_
 obtain⟨x,dx,l,xs,rfl,e,el,q⟩:=h
 refine ao (xb1 (aV (xv 0) (xcTy aA T.n_list rfl (xac (xv 1) xa0)))) ?_
 refine⟨_,rfl,l,_,rfl, .inl (SqL.of el),λp hp=>⟨_,rfl,x,_,dx,_,rfl,ac hp _ _ _ e,T.o_Para.cls,T.a_Para_parts,by decide,?_⟩⟩
 have hpx:p≠x:=λz=>by rw[z,e] at hp;cases hp
 exact q p _ hp ((b6 hp).trans keep_upd) ((af hpx).trans aa) aa
theorem ia (F:Fun K "__init__" "Literal.__init__" cm f fd)(T:TxB K mg c BT):FnOk P w K mg base CX0 1 f fd p17 (bV c.Literal "lines"):=by
 have sc:=i8
 refine F.oks sc λcdv A outer s H vs Q E hr h=>?_
 obtain⟨x,dx,l,xs,rfl,e,el,q⟩:=h
 refine ao (xb1 (aV (xv 0) (xcTy aA T.n_list rfl (xac (xv 1) xa0)))) ?_
 refine⟨_,rfl,l,_,rfl, .inl (SqL.of el),λp hp=>⟨_,rfl,x,_,dx,_,rfl,ac hp _ _ _ e,T.o_Literal.cls,T.a_Literal_lines,by decide,?_⟩⟩
 have hpx:p≠x:=λz=>by rw[z,e] at hp;cases hp
 exact q p _ hp ((b6 hp).trans keep_upd) ((af hpx).trans aa) aa
theorem kl (F:Fun K "__init__" "Quote.__init__" dI f fd)(T:TxB K mg c BT):FnOk P w K mg base CX0 1 f fd p31 (bV c.Quote "blocks"):=by
 have sc:=lH
 refine F.oks sc λcdv A outer s H vs Q E hr h=>?_
 obtain⟨x,dx,l,xs,rfl,e,el,q⟩:=h
 refine ao (xb1 (aV (xv 0) (xcTy aA T.n_list rfl (xac (xv 1) xa0)))) ?_
 refine⟨_,rfl,l,_,rfl, .inl (SqL.of el),λp hp=>⟨_,rfl,x,_,dx,_,rfl,ac hp _ _ _ e,T.o_Quote.cls,T.a_Quote_blocks,by decide,?_⟩⟩
 have hpx:p≠x:=λz=>by rw[z,e] at hp;cases hp
 exact q p _ hp ((b6 hp).trans keep_upd) ((af hpx).trans aa) aa
theorem ib (F:Fun K "__init__" "Listing.__init__" cq f fd)(T:TxB K mg c BT):FnOk P w K mg base CX0 1 f fd p32 (bV c.Listing "entries"):=by
 have sc:=i9
 refine F.oks sc λcdv A outer s H vs Q E hr h=>?_
 obtain⟨x,dx,l,xs,rfl,e,el,q⟩:=h
 refine ao (xb1 (aV (xv 0) (xcTy aA T.n_list rfl (xac (xv 1) xa0)))) ?_
 refine⟨_,rfl,l,_,rfl, .inl (SqL.of el),λp hp=>⟨_,rfl,x,_,dx,_,rfl,ac hp _ _ _ e,T.o_Listing.cls,T.a_Listing_entries,by decide,?_⟩⟩
 have hpx:p≠x:=λz=>by rw[z,e] at hp;cases hp
 exact q p _ hp ((b6 hp).trans keep_upd) ((af hpx).trans aa) aa
theorem ic (F:Fun K "__init__" "Heading.__init__" ck f fd)(T:TxB K mg c BT):FnOk P w K mg base CX0 1 f fd p28 (dH c.Heading "level" "parts"):=by
 have sc:=i7
 refine F.oks sc λcdv A outer s H vs Q E hr h=>?_
 obtain⟨x,dx,v,l,xs,rfl,e,el,q⟩:=h
 refine ao (xbc (aV (xv 0) (xv 1))
  (xb1 (aV (xv 0) (xcTy aA T.n_list rfl (xac (xv 2) xa0))))) ?_
 have hlx:l≠x:=λz=>by rw[z,e] at el;cases el
 refine⟨_,rfl,_,rfl,x,_,dx,_,rfl,e,T.o_Heading.cls,T.a_Heading_level,by decide,?_⟩
 refine⟨_,rfl,l,_,rfl, .inl (SqL.of ((af hlx).trans el)),λp hp=>⟨_,rfl,x,_,dx,_,rfl,ac hp _ _ _ aa,T.o_Heading.cls,T.a_Heading_parts,by show 1 < 1000;decide,?_⟩⟩
 have hpx:p≠x:=λz=>by rw[z,aa] at hp;cases hp
 exact q p _ (by rwa [af hpx] at hp) ((keep_upd.trans (b6 hp)).trans keep_upd) ((af hpx).trans aa) aa
theorem ja (F:Fun K "__init__" "Noting.__init__" cR f fd)(T:TxB K mg c BT):FnOk P w K mg base CX0 1 f fd p29 (dH c.Noting "name" "parts"):=by
 have sc:=kh
 refine F.oks sc λcdv A outer s H vs Q E hr h=>?_
 obtain⟨x,dx,v,l,xs,rfl,e,el,q⟩:=h
 refine ao (xbc (aV (xv 0) (xv 1))
  (xb1 (aV (xv 0) (xcTy aA T.n_list rfl (xac (xv 2) xa0))))) ?_
 have hlx:l≠x:=λz=>by rw[z,e] at el;cases el
 refine⟨_,rfl,_,rfl,x,_,dx,_,rfl,e,T.o_Noting.cls,T.a_Noting_name,by decide,?_⟩
 refine⟨_,rfl,l,_,rfl, .inl (SqL.of ((af hlx).trans el)),λp hp=>⟨_,rfl,x,_,dx,_,rfl,ac hp _ _ _ aa,T.o_Noting.cls,T.a_Noting_parts,by show 1 < 1000;decide,?_⟩⟩
 have hpx:p≠x:=λz=>by rw[z,aa] at hp;cases hp
 exact q p _ (by rwa [af hpx] at hp) ((keep_upd.trans (b6 hp)).trans keep_upd) ((af hpx).trans aa) aa
theorem jb (F:Fun K "__init__" "Naming.__init__" cQ f fd)(T:TxB K mg c BT):FnOk P w K mg base CX0 1 f fd p30 (fE c.Naming "name" "target"):=by
 have sc:=kj
 refine F.oks sc λcdv A outer s H vs Q E hr h=>?_
 obtain⟨x,dx,v,u,rfl,e,q⟩:=h
 refine ao (xbc (aV (xv 0) (xv 1))
  (xb1 (aV (xv 0) (xv 2)))) ?_
 refine⟨_,rfl,_,rfl,x,_,dx,_,rfl,e,T.o_Naming.cls,T.a_Naming_name,by decide,?_⟩
 exact⟨_,rfl,_,rfl,x,_,dx,_,rfl,aa,T.o_Naming.cls,T.a_Naming_target,by show 1 < 1000;decide,q⟩
theorem km (F:Fun K "__init__" "Entry.__init__" dJ f fd)(T:TxB K mg c BT):FnOk P w K mg base CX0 1 f fd p33 (lG c.Entry):=by
 have sc:=lI
 refine F.oks sc λcdv A outer s H vs Q E hr h=>?_
 obtain⟨x,dx,v,l,xs,m,ys,rfl,e,el,em,q⟩:=h
 refine ao (xbc (aV (xv 0) (xv 1))
  (xbc (aV (xv 0) (xcTy aA T.n_list rfl (xac (xv 2) xa0)))
  (xb1 (aV (xv 0) (xcTy aA T.n_list rfl (xac (xv 3) xa0)))))) ?_
 have hlx:l≠x:=λz=>by rw[z,e] at el;cases el
 have hmx:m≠x:=λz=>by rw[z,e] at em;cases em
 refine⟨_,rfl,_,rfl,x,_,dx,_,rfl,e,T.o_Entry.cls,T.a_Entry_sign,by decide,?_⟩
 refine⟨_,rfl,l,_,rfl, .inl (SqL.of ((af hlx).trans el)),λp hp=>⟨_,rfl,x,_,dx,_,rfl,ac hp _ _ _ aa,T.o_Entry.cls,T.a_Entry_parts,by show 1 < 1000;decide,?_⟩⟩
 have hpx:p≠x:=λz=>by rw[z,aa] at hp;cases hp
 have hpH:H p=none:=by rwa [af hpx] at hp
 have hmp:m≠p:=λz=>by rw[z,hpH] at em;cases em
 refine⟨_,rfl,m,_,rfl, .inl (SqL.of ((af hmx).trans ((af hmp).trans ((af hmx).trans em)))),λr hr'=>⟨_,rfl,x,_,dx,_,rfl,ac hr' _ _ _ aa,T.o_Entry.cls,T.a_Entry_entries,by show 2 < 1000;decide,?_⟩⟩
 have hrx:r≠x:=λz=>by rw[z,aa] at hr';cases hr'
 have hrp:p≠r:=λz=>by rw[<- z,af hpx,aa] at hr';cases hr'
 have k2:=(keep_upd.trans (b6 (x:=x) (o := .lst xs) hp)).trans (keep_upd (x:=x) (o := .ins c.Entry dx (putF "parts" (.ref p) (putF "sign" v []))))
 exact q p r _ hpH (aB k2 hrx hr') ((k2.trans (b6 hr')).trans keep_upd) ((af hpx).trans ((af hrp).trans ((af hpx).trans aa))) ((af hrx).trans aa) aa
def LV (H:Hp)(l:Addr)(xss:List (List V)):Prop:=LAt (λH a (xs:List V)=>H a=some (.lst xs)) H l xss
theorem ie:MoR LV:=gJ λ_ _ _ _ s h=>s _ _ h
abbrev sOwn:Stmt:=top 54
theorem scOwn:FnScope ["cells"] ["cells"] (ad sOwn):=mkS
def spOwn:Sp:=λvs H Q _=>∃(l:Addr) (xss:List (List V)),vs=[.ref l]/\LV H l xss/\xss.length<=100000/\∀r H',Same H H'->H r=none->LV (dif H H') r xss->Q (.ref r) H'
theorem ok_own (F:Fun K "own_cells" "own_cells" sOwn f fd)(T:TxB K mg c BT):FnOk P w K mg base CX0 1 f fd ["cells"] spOwn:=by
 have sc:=scOwn
 refine F.oks sc λcdv A outer s H vs Q E hr h=>?_
 obtain⟨l,xss,rfl,⟨as,el,hls⟩,hl,q⟩:=h
 refine ao (xb1 (xret (xlc (cl:=[]) (own:=["cell"]) (fr:=[]) (N':=["cell"]) rfl (bw (xs:=[]) trivial trivial (by decide +kernel)) (by decide +kernel) (by decide +kernel) (by with_unfolding_all rfl)
  (xil (xv 0))
  (λ_ _ _ _=>xgn (i:=0) (show (["cell"]:List Str).Nodup by decide +kernel) rfl (Or.inl rfl)) (λ_ _ _ _=>xq0) (λ_ _ _ _=>(xcTy iZ T.n_list rfl (xac (xv 0) xa0)))))) ?_
 have hlen:=hls.len
 refine⟨_,rfl,l,rfl,⟨_,SqL.of el⟩,?_⟩
 refine pZ (λi a' G=>G a'=some (.lst (xss.getD i []))) (λ_ _ _ _ s h=>s _ _ h) (SqL.of el) (by rw[l6];omega) ?_ ?_
 ·intro i x hx H2 s2 C N hC
  obtain⟨a,xs,rfl,hxi,_,e⟩:=hls.get hx
  refine⟨(nfLe.refl _ _ _).set (by decide) _,iteT (B:=N H2) ⟨_,rfl,a,xs,rfl, .inl (SqL.of (s2 _ _ e)),λp hp=>hC p _ (ac hp _) hp ?_⟩⟩
  rw[l39,hxi,ar hp]
  exact aa
 ·intro D H2 bs hD s2 eD hbl hbs
  refine q D H2 s2 hD ⟨bs,by rw[ar hD];exact eD,?_⟩
  refine ls_of (by rw[hbl,l6,hlen]) λi b x hb hx=>?_
  have:=hbs i b hb
  rwa [l39,hx] at this
def lL (C:Addr):Sp:=λvs H Q _=>∃x dx h sd ln hss sv lss,vs=[.ref x, .ref h, .ref sd, .ref ln]/\H x=some (.ins C dx [])/\LV H h hss/\hss.length<=100000/\H sd=some (.lst sv)/\LAt LV H ln lss/\lss.length<=100000/\(∀l∈lss,l.length<=100000) ∧
 ∀h' s' l' H',KeepX x H H'->LV (dif H H') h' hss->dif H H' s'=some (.lst sv)->LAt LV (dif H H') l' lss->H' x=some (.ins C dx [("head", .ref h'),("sides", .ref s'),("lines", .ref l')])->Q .non H'
def offX (H:Hp)(x:Addr):Hp:=λb=>if b=x then none else H b
theorem qa {H H':Hp}{x:Addr}(k:KeepX x H H'):Same (offX H x) H':=λb o e=>by
 unfold offX at e
 split at e
 ·cases e
 ·rename_i hb
  exact k b o hb e
theorem mQ {H:Hp}{x a:Addr}{xs:List V}{C dx:Addr}{fs:List (Str×V)}(hx:H x=some (.ins C dx fs))(e:H a=some (.lst xs)):offX H x a=some (.lst xs):=by
 unfold offX
 rw[if_neg λz=>by rw[z,hx] at e;cases e]
 exact e
theorem LV.off {H:Hp}{x l:Addr}{xss:List (List V)}{C dx:Addr}{fs:List (Str×V)}(hx:H x=some (.ins C dx fs))(h:LV H l xss):LV (offX H x) l xss:=let ⟨as,e,k⟩:=h;⟨as,mQ hx e,k.mono λ_ _ z=>mQ hx z⟩
theorem dif_in {H H1 H2 H3:Hp}{x:Addr}(hx:H x≠none)(h1:∀b,b≠x->H1 b=none->H b=none)(hx1:H1 x≠none)(k:KeepX x H2 H3):Same (dif H1 H2) (dif H H3):=λb o e=>by
 obtain⟨n,e⟩:=ci e
 have hb:b≠x:=λz=>hx1 (z▸n)
 rw[ar (h1 b hb n)]
 exact k b o hb e
theorem kn (F:Fun K "__init__" "Table.__init__" dL f fd)(T:TxB K mg c BT)(D_own_cells:Def P w K mg base 1 "own_cells" ["cells"] spOwn):FnOk P w K mg base CX0 2 f fd p34 (lL c.Table):=by
 have sc:=lJ
 refine F.oks sc λcdv A outer s H vs Q E hr h=>?_
 obtain⟨x,dx,h,sd,ln,hss,sv,lss,rfl,e,eh,lh,es,⟨as,el,hls⟩,ll,lll,q⟩:=h
 refine ao (xbc (aV (xv 0) (xcd D_own_cells hr (xac (xv 1) xa0)))
  (xbc (aV (xv 0) (xcTy aA T.n_list rfl (xac (xv 2) xa0)))
  (xb1 (aV (xv 0) (xlc (cl:=[]) (own:=["line"]) (fr:=[]) (N':=["line"]) rfl (bw (xs:=[]) trivial trivial (by decide +kernel)) (by decide +kernel) (by decide +kernel) (by with_unfolding_all rfl)
  (xil (xv 3))
  (λ_ _ _ _=>xgn (i:=0) (show (["line"]:List Str).Nodup by decide +kernel) rfl (Or.inl rfl)) (λ_ _ _ _=>xq0) (λ_ _ _ _=>(xcd D_own_cells hr (xac (xv 0) xa0)))))))) ?_
 refine⟨_,rfl,h,hss,rfl,eh,lh,λr1 H1 s1 hr1 d1=>⟨_,rfl,x,_,dx,_,rfl,s1 _ _ e,T.o_Table.cls,T.a_Table_head,by decide,?_⟩⟩
 have hsx:sd≠x:=λz=>by rw[z,e] at es;cases es
 have hlx:ln≠x:=λz=>by rw[z,e] at el;cases el
 refine⟨_,rfl,sd,_,rfl, .inl (SqL.of ((af hsx).trans (s1 _ _ es))),λp hp=>⟨_,rfl,x,_,dx,_,rfl,ac hp _ _ _ aa,T.o_Table.cls,T.a_Table_sides,by show 1 < 1000;decide,?_⟩⟩
 have hpx:p≠x:=λz=>by rw[z,aa] at hp;cases hp
 have hp1:H1 p=none:=by rwa [af hpx] at hp
 have k1:KeepX x H H1:=λb o _ h=>s1 _ _ h
 have k4:KeepX x H1 (upd (upd (upd H1 x (.ins c.Table dx (putF "head" (.ref r1) []))) p (.lst sv)) x (.ins c.Table dx (putF "sides" (.ref p) (putF "head" (.ref r1) [])))):=(keep_upd.trans (b6 hp)).trans keep_upd
 have e4p:upd (upd (upd H1 x (.ins c.Table dx (putF "head" (.ref r1) []))) p (.lst sv)) x (.ins c.Table dx (putF "sides" (.ref p) (putF "head" (.ref r1) []))) p=some (.lst sv):=(af hpx).trans aa
 have e4x:upd (upd (upd H1 x (.ins c.Table dx (putF "head" (.ref r1) []))) p (.lst sv)) x (.ins c.Table dx (putF "sides" (.ref p) (putF "head" (.ref r1) []))) x=some (.ins c.Table dx [("head", .ref r1),("sides", .ref p)]):=aa
 refine⟨_,rfl,ln,rfl,⟨_,SqL.of (k4 _ _ hlx (s1 _ _ el))⟩,?_⟩
 generalize upd (upd (upd H1 x (.ins c.Table dx (putF "head" (.ref r1) []))) p (.lst sv)) x (.ins c.Table dx (putF "sides" (.ref p) (putF "head" (.ref r1) [])))=H4 at k4 e4p e4x ⊢
 have kk:=k1.trans k4
 refine pZ (λi b G=>LV G b (lss.getD i [])) (λi b G G' s h=>ie _ _ _ _ s h) (SqL.of (kk _ _ hlx el)) (by rw[l6,hls.len];omega) ?_ ?_
 ·intro i v hv H5 s5 C N hC
  obtain⟨a,xs,rfl,hxi,_,hl⟩:=hls.get hv
  have hm:=l17 hxi
  refine⟨(nfLe.refl _ _ _).set (by decide) _,iteT (B:=N H5) ⟨_,rfl,a,xs,rfl,ie _ _ _ _ ((qa kk).trans s5) (hl.off e),lll _ hm,λb H6 s6 hb d6=>hC b H6 s6 hb ?_⟩⟩
  rw[l39,hxi]
  exact d6
 ·intro D H5 bs hD s5 eD hbl hbs
  refine⟨_,rfl,x,_,dx,_,rfl,s5 _ _ e4x,T.o_Table.cls,T.a_Table_lines,by show 2 < 1000;decide,?_⟩
  have kH5:KeepX x H4 H5:=λb o _ h=>s5 _ _ h
  have k46:=kH5.trans (keep_upd (o := .ins c.Table dx (putF "lines" (.ref D) [("head", .ref r1),("sides", .ref p)])))
  have nn:H x≠none:=by rw[e];exact λz=>nomatch z
  have n4:H4 x≠none:=by rw[e4x];exact λz=>nomatch z
  have n1:H1 x≠none:=by rw[s1 _ _ e];exact λz=>nomatch z
  have nD : LAt LV (dif H4 H5) D lss := ⟨bs,by rw[ar hD];exact eD,ls_of (by rw[hbl,l6,hls.len]) λi b y hb hy=>by
   have:=hbs i b hb
   rwa [l39,hy] at this⟩
  refine q r1 p D _ (kk.trans k46) (ie _ _ _ _ (dif_in nn (λb hb z=>z) nn (k4.trans k46)) d1) ?_ (nD.same ie (dif_in nn (λb hb z=>aB kk hb z) n4 keep_upd)) aa
  rw[ar (aB k1 hpx hp1)]
  exact k46 _ _ hpx e4p
end
theorem ff {α β:Type}(xs:List α)(g:α->β)(d:β):(List.range xs.length).map (λi=>((xs[i]?).map g).getD d)=xs.map g:=by
 apply List.ext_getElem?
 intro i
 rw[List.getElem?_map,List.getElem?_map]
 by_cases hi:i < xs.length
 ·rw[List.getElem?_range hi,List.getElem?_eq_getElem hi]
  simp only[Option.map_some,List.getElem?_eq_getElem hi,Option.getD_some]
 ·rw[List.getElem?_eq_none (by rw[l56];omega),List.getElem?_eq_none (by omega)]
  rfl
theorem dn_k {G:Hp}{k:Str}(h:(PyData.strOk k&&decide (k.length<=100000))=true:=by decide +kernel):Dn G (.str k) (.str k):=by
 rw[Bool.and_eq_true] at h
 exact .str k h.1 (of_decide_eq_true h.2)
theorem dn_S {G:Hp}{l:List Nat}(h:Asc l/\l.length<=1000):Dn G (vS l) (.str (S l)):=(c8 h.1 (by omega)).dn
theorem dn_Ss {G:Hp}:∀{ls:List (List Nat)},(∀l∈ls,Asc l/\l.length<=1000)->DnAll G (ls.map vS) (ls.map λl=>PyData.str (S l))
 | [],_ => .nil
 |l::ls,h => .cons (dn_S (h l l13)) (dn_Ss λx hx=>h x (l15 _ hx))
theorem cS {H0 H:Hp}{t:Addr}{xs:List V}{ds:List PyData}(s:Same H0 H)(ht:H t=none)(d:DnAll (dif H0 H) xs ds):Same H0 (upd H t (.tup xs))/\Dn (dif H0 (upd H t (.tup xs))) (.ref t) (.tuple ds):=
 ⟨s.trans (ac ht _), .tup (by rw[ar (s.free ht),aa]) (d.same (bm (Same.refl _) (ac ht _)))⟩
theorem qb {H0 H:Hp}{t:Addr}{xs:List V}{ds:List PyData}(s:Same H0 H)(ht:H t=none)(d:DnAll (dif H0 H) xs ds)(hl:xs.length<=100000):Same H0 (upd H t (.lst xs))/\Dn (dif H0 (upd H t (.lst xs))) (.ref t) (.list ds):=
 ⟨s.trans (ac ht _), .lst (by rw[ar (s.free ht),aa]) (d.same (bm (Same.refl _) (ac ht _))) hl⟩
def spTB {β:Type}(c:Cb)(R:Hp->Addr->β->Prop)(f:β->PyData)(ok:β->Prop)(S:BkF β->Prop):Sp:=λvs H Q _=>∃a b,vs=[.ref a]/\BAtF c R H a b/\S b/\OkBF ok b/\∀v H',Same H H'->Dn (dif H H') v (dBF f b)->Q v H'
def spTC (c:Cb):Sp:=λvs H Q _=>∃(l:Addr) (cs:List (List PC)),vs=[.ref l]/\LAt (PL c.cp) H l cs/\OkCs cs/\∀r H',Same H H'->Dn (dif H H') (.ref r) (bF cs)->Q (.ref r) H'
def spTEs (c:Cb)(n:Nat):Sp:=λvs H Q _=>∃(l:Addr) (es:List (En n)),vs=[.ref l]/\LAt (EAt c n) H l es/\es.length<=1000/\(∀e∈es,OkE n e)/\∀r H',Same H H'->Dn (dif H H') (.ref r) (.list (es.map (dE n)))->Q (.ref r) H'
def spTE (c:Cb)(n:Nat):Sp:=λvs H Q _=>∃(a:Addr) (e:En n),vs=[.ref a]/\EAt c n H a e/\OkE n e/\∀v H',Same H H'->Dn (dif H H') v (dE n e)->Q v H'
def MV (P:Program)(w:World)(K:PySem.W.Frag)(mg:Str->Option Value)(base:Heap)(k:Nat){β:Type}(m:Str)(R:Hp->Addr->β->Prop)(ok:β->Prop)(post:β->Hp->V->Hp->Prop):Prop:=
 ∀b,ok b->∀H a,R H a b->∃C dx fs sp,H a=some (.ins C dx fs)/\fs.lookup m=none/\MethV P w K mg base k C m ["self"] sp/\∀Q E,(∀v H',post b H v H'->Q v H')->sp [.ref a] H Q E
def gN {β:Type}(f:β->PyData):β->Hp->V->Hp->Prop:=λb H v H'=>Same H H'/\Dn (dif H H') v (f b)
section
variable {c:Cb}{BT:Addr}{β:Type}{R:Hp->Addr->β->Prop}{fB:β->PyData}{ok:β->Prop}
abbrev cr:Stmt:=meth 38 1
theorem jc:FnScope ["self"] ["self"] (ad cr):=mkS
abbrev fg:Stmt:=meth 39 1
theorem ol:FnScope ["self"] ["self"] (ad fg):=mkS
abbrev cu:Stmt:=meth 40 1
theorem jd:FnScope ["self"] ["self"] (ad cu):=mkS
abbrev dM:Stmt:=meth 41 1
theorem lM:FnScope ["self"] ["self"] (ad dM):=mkS
abbrev cT:Stmt:=meth 42 1
theorem ko:FnScope ["self"] ["self"] (ad cT):=mkS
abbrev cU:Stmt:=meth 43 1
theorem kq:FnScope ["self"] ["self"] (ad cU):=mkS
abbrev dN:Stmt:=meth 47 1
theorem lN:FnScope ["self"] ["self"] (ad dN):=mkS
abbrev cv:Stmt:=meth 48 1
theorem je:FnScope ["self"] ["self"] (ad cv):=mkS
abbrev dO:Stmt:=meth 53 1
theorem lO:FnScope p17 ["self"] (ad dO):=mkS
theorem ig (F:Fun K "told" "Heading.told" cr f fd)(T:TxB K mg c BT)(D_told_parts:Def P w K mg base 4 "told_parts" ["parts"] (cM c.cp R2)):FnOk P w K mg base CX0 5 f fd ["self"] (spTB c R fB ok λb=>∃n ps,b = .heading n ps):=by
 have sc:=jc
 refine F.oks sc λcdv A outer s H vs Q E hr h=>?_
 obtain⟨a,b,rfl,ha,⟨n,ps,rfl⟩,hok,q⟩:=h
 obtain⟨dx,l,e,as,el,hps⟩:=ha
 refine ao (xb1 (xret (xtup (xac xstr (xac (xfld (xv 0)) (xac (xcd D_told_parts hr (xac (xfld (xv 0)) xa0)) xa0)))))) ?_
 have hps2:OkPs ps:=hok.2
 refine⟨_,rfl,a,_,dx,_,_,rfl,e,T.o_Heading.cls,T.a_Heading_level,rfl,_,rfl,a,_,dx,_,_,rfl,e,T.o_Heading.cls,T.a_Heading_parts,rfl,l,as,ps,rfl,el,hps,hps2.r2,by rw[hps.len];have:=hps2.len;omega,λr H1 s1 d1=>⟨big (show (3:Nat)<=1000000 by decide),λt ht=>?_⟩⟩
 obtain⟨a1,a2⟩:=cS s1 ht (.cons (dn_k (k:="heading")) (.cons (.int _) (.cons d1 .nil)))
 exact q _ _ a1 a2
theorem lP (F:Fun K "told" "Para.told" fg f fd)(T:TxB K mg c BT)(D_told_parts:Def P w K mg base 4 "told_parts" ["parts"] (cM c.cp R2)):FnOk P w K mg base CX0 5 f fd ["self"] (spTB c R fB ok λb=>∃ps,b = .para ps):=by
 have sc:=ol
 refine F.oks sc λcdv A outer s H vs Q E hr h=>?_
 obtain⟨a,b,rfl,ha,⟨ps,rfl⟩,hok,q⟩:=h
 obtain⟨dx,l,e,as,el,hps⟩:=ha
 refine ao (xb1 (xret (xtup (xac xstr (xac (xcd D_told_parts hr (xac (xfld (xv 0)) xa0)) xa0))))) ?_
 have hps2:OkPs ps:=hok
 refine⟨_,rfl,a,_,dx,_,_,rfl,e,T.o_Para.cls,T.a_Para_parts,rfl,l,as,ps,rfl,el,hps,hps2.r2,by rw[hps.len];have:=hps2.len;omega,λr H1 s1 d1=>⟨big (show (2:Nat)<=1000000 by decide),λt ht=>?_⟩⟩
 obtain⟨a1,a2⟩:=cS s1 ht (.cons (dn_k (k:="para")) (.cons d1 .nil))
 exact q _ _ a1 a2
theorem jf (F:Fun K "told" "Noting.told" cU f fd)(T:TxB K mg c BT)(D_told_parts:Def P w K mg base 4 "told_parts" ["parts"] (cM c.cp R2)):FnOk P w K mg base CX0 5 f fd ["self"] (spTB c R fB ok λb=>∃n ps,b = .note n ps):=by
 have sc:=kq
 refine F.oks sc λcdv A outer s H vs Q E hr h=>?_
 obtain⟨a,b,rfl,ha,⟨n,ps,rfl⟩,hok,q⟩:=h
 obtain⟨dx,l,e,as,el,hps⟩:=ha
 refine ao (xb1 (xret (xtup (xac xstr (xac (xfld (xv 0)) (xac (xcd D_told_parts hr (xac (xfld (xv 0)) xa0)) xa0)))))) ?_
 have hps2:OkPs ps:=hok.2
 refine⟨_,rfl,a,_,dx,_,_,rfl,e,T.o_Noting.cls,T.a_Noting_name,rfl,_,rfl,a,_,dx,_,_,rfl,e,T.o_Noting.cls,T.a_Noting_parts,rfl,l,as,ps,rfl,el,hps,hps2.r2,by rw[hps.len];have:=hps2.len;omega,λr H1 s1 d1=>⟨big (show (3:Nat)<=1000000 by decide),λt ht=>?_⟩⟩
 obtain⟨a1,a2⟩:=cS s1 ht (.cons (dn_k (k:="note")) (.cons (dn_S hok.1) (.cons d1 .nil)))
 exact q _ _ a1 a2
theorem jg (F:Fun K "told" "Naming.told" cT f fd)(T:TxB K mg c BT):FnOk P w K mg base CX0 1 f fd ["self"] (spTB c R fB ok λb=>∃n t,b = .name n t):=by
 have sc:=ko
 refine F.oks sc λcdv A outer s H vs Q E hr h=>?_
 obtain⟨a,b,rfl,ha,⟨n,u,rfl⟩,hok,q⟩:=h
 obtain⟨dx,e⟩:=ha
 refine ao (xb1 (xret (xtup (xac xstr (xac (xfld (xv 0)) (xac (xfld (xv 0)) xa0)))))) ?_
 refine⟨_,rfl,a,_,dx,_,_,rfl,e,T.o_Naming.cls,T.a_Naming_name,rfl,_,rfl,a,_,dx,_,_,rfl,e,T.o_Naming.cls,T.a_Naming_target,rfl,big (show (3:Nat)<=1000000 by decide),λt ht=>?_⟩
 obtain⟨a1,a2⟩:=cS (Same.refl H) ht (.cons (dn_k (k:="name")) (.cons (dn_S hok.1) (.cons (dn_S hok.2) .nil)))
 exact q _ _ a1 a2
theorem ii (F:Fun K "told" "Literal.told" cu f fd)(T:TxB K mg c BT):FnOk P w K mg base CX0 1 f fd ["self"] (spTB c R fB ok λb=>∃ls,b = .lit ls):=by
 have sc:=jd
 refine F.oks sc λcdv A outer s H vs Q E hr h=>?_
 obtain⟨a,b,rfl,ha,⟨ls,rfl⟩,hok,q⟩:=h
 obtain⟨dx,l,e,el⟩:=ha
 refine ao (xb1 (xret (xtup (xac xstr (xac (xcTy aA T.n_list rfl (xac (xfld (xv 0)) xa0)) xa0))))) ?_
 refine⟨_,rfl,a,_,dx,_,_,rfl,e,T.o_Literal.cls,T.a_Literal_lines,rfl,l,_,rfl, .inl (SqL.of el),λp hp=>⟨big (show (2:Nat)<=1000000 by decide),λt ht=>?_⟩⟩
 obtain⟨b1,b2⟩:=qb (Same.refl H) hp (dn_Ss hok.2) (by rw[l6];have:=hok.1;omega)
 obtain⟨a1,a2⟩:=cS b1 ht (.cons (dn_k (k:="literal")) (.cons b2 .nil))
 exact q _ _ a1 a2
theorem ij {k:Nat}(F:Fun K "told" "Listing.told" cv f fd)(T:TxB K mg c BT)(D_told_entries:Def P w K mg base k "told_entries" ["entries"] (spTEs c 6)):FnOk P w K mg base CX0 (k+1) f fd ["self"] (spTB c R fB ok λb=>∃es,b = .lst es):=by
 have sc:=je
 refine F.oks sc λcdv A outer s H vs Q E hr h=>?_
 obtain⟨a,b,rfl,ha,⟨es,rfl⟩,hok,q⟩:=h
 obtain⟨dx,l,e,hl⟩:=ha
 refine ao (xb1 (xret (xtup (xac xstr (xac (xcd D_told_entries hr (xac (xfld (xv 0)) xa0)) xa0))))) ?_
 refine⟨_,rfl,a,_,dx,_,_,rfl,e,T.o_Listing.cls,T.a_Listing_entries,rfl,l,es,rfl,hl,hok.1,hok.2,λr H1 s1 d1=>⟨big (show (2:Nat)<=1000000 by decide),λt ht=>?_⟩⟩
 obtain⟨a1,a2⟩:=cS s1 ht (.cons (dn_k (k:="list")) (.cons d1 .nil))
 exact q _ _ a1 a2
abbrev lQ:Stmt:=top 49
theorem scToldEs:FnScope ["entries"] ["entries"] (ad lQ):=mkS
theorem kr {k n:Nat}(F:Fun K "told_entries" "told_entries" lQ f fd)(hM:MV P w K mg base k "told" (EAt c n) (OkE n) (gN (dE n))):FnOk P w K mg base CX0 (k+1) f fd ["entries"] (spTEs c n):=by
 have sc:=scToldEs
 refine F.oks sc λcdv A outer s H vs Q E hr h=>?_
 obtain⟨l,es,rfl,⟨as,el,hls⟩,hl,hok,q⟩:=h
 refine ao (xb1 (xret (xlc (cl:=[]) (own:=["entry"]) (fr:=[]) (N':=["entry"]) rfl (bw (xs:=[]) trivial trivial (by decide +kernel)) (by decide +kernel) (by decide +kernel) (by with_unfolding_all rfl)
  (xil (xv 0))
  (λ_ _ _ _=>xgn (i:=0) (show (["entry"]:List Str).Nodup by decide +kernel) rfl (Or.inl rfl)) (λ_ _ _ _=>xq0) (λ_ _ _ _=>(xmV0C (k:=k) (xv 0) (hr.mono (by omega))))))) ?_
 have hlen:=hls.len
 refine⟨_,rfl,l,rfl,⟨_,SqL.of el⟩,?_⟩
 refine gE (λi=>((es[i]?).map (dE n)).getD .none) (SqL.of el) (by rw[l6];omega) ?_ ?_
 ·intro i x hx H2 s2 C N hC
  obtain⟨a,e,rfl,hei,_,ha⟩:=hls.get hx
  obtain⟨Cc,dx,fs,sp,e1,e2,V,hsp⟩:=hM e (hok e (l17 hei)) H2 a (gM n _ _ _ _ s2 ha)
  refine⟨(nfLe.refl _ _ _).set (by decide) _,iteT (B:=N H2) ⟨_,rfl,a,Cc,dx,fs,_,sp,rfl,e1,e2,V,hsp _ _ λv H4 ⟨s4,d4⟩=>hC v H4 s4 ?_⟩⟩
  rw[hei]
  exact d4
 ·intro D H2 hD s2 dD
  rw[l6,hlen,ff] at dD
  exact q D H2 s2 dD
theorem kt {k n:Nat}(F:Fun K "told" "Entry.told" dN f fd)(T:TxB K mg c BT)(D_told_parts:Def P w K mg base 4 "told_parts" ["parts"] (cM c.cp R2))(D_told_entries:Def P w K mg base k "told_entries" ["entries"] (spTEs c n)):FnOk P w K mg base CX0 (k+5) f fd ["self"] (spTE c (n+1)):=by
 have sc:=lN
 refine F.oks sc λcdv A outer s H vs Q E hr h=>?_
 obtain⟨a,en,rfl,⟨dx,lp,le,e,⟨as,el,hps⟩,hle⟩,⟨hps2,hl,hw⟩,q⟩:=h
 refine ao (xb1 (xret (xtup (xac (xfld (xv 0)) (xac (xcd D_told_parts hr (xac (xfld (xv 0)) xa0)) (xac (xcd D_told_entries hr (xac (xfld (xv 0)) xa0)) xa0)))))) ?_
 refine⟨_,rfl,a,_,dx,_,_,rfl,e,T.o_Entry.cls,T.a_Entry_sign,rfl,_,rfl,a,_,dx,_,_,rfl,e,T.o_Entry.cls,T.a_Entry_parts,rfl,lp,as,_,rfl,el,hps,hps2.r2,by rw[hps.len];have:=hps2.len;omega,λr H1 s1 d1=>?_⟩
 refine⟨_,rfl,a,_,dx,_,_,rfl,s1 _ _ e,T.o_Entry.cls,T.a_Entry_entries,rfl,le,_,rfl,hle.same (gM n) s1,hl,hw,λr2 H2 s2 d2=>⟨big (show (3:Nat)<=1000000 by decide),λt ht=>?_⟩⟩
 have hsg:∀b:Bool,Asc (bI b)/\(bI b).length<=1000:=λb=>by cases b <;> exact⟨aI _ rfl,by decide⟩
 obtain⟨a1,a2⟩:=cS (s1.trans s2) ht (.cons (dn_S (hsg _)) (.cons (d1.same (bm (Same.refl _) s2)) (.cons (d2.same (bm s1 (Same.refl _))) .nil)))
 exact q _ _ a1 a2
abbrev qc:Stmt:=top 55
theorem scToldC:FnScope ["cells"] ["cells"] (ad qc):=mkS
theorem ok_toldC (F:Fun K "told_cells" "told_cells" qc f fd)(D_told_parts:Def P w K mg base 4 "told_parts" ["parts"] (cM c.cp R2)):FnOk P w K mg base CX0 5 f fd ["cells"] (spTC c):=by
 have sc:=scToldC
 refine F.oks sc λcdv A outer s H vs Q E hr h=>?_
 obtain⟨l,cs,rfl,⟨as,el,hls⟩,hok,q⟩:=h
 refine ao (xb1 (xret (xlc (cl:=[]) (own:=["cell"]) (fr:=[]) (N':=["cell"]) rfl (bw (xs:=[]) trivial trivial (by decide +kernel)) (by decide +kernel) (by decide +kernel) (by with_unfolding_all rfl)
  (xil (xv 0))
  (λ_ _ _ _=>xgn (i:=0) (show (["cell"]:List Str).Nodup by decide +kernel) rfl (Or.inl rfl)) (λ_ _ _ _=>xq0) (λ_ _ _ _=>(xcd D_told_parts hr (xac (xv 0) xa0)))))) ?_
 have hlen:=hls.len
 have hl:=hok.1
 refine⟨_,rfl,l,rfl,⟨_,SqL.of el⟩,?_⟩
 refine gE (λi=>((cs[i]?).map λps=>PyData.list (ps.map dP)).getD .none) (SqL.of el) (by rw[l6];omega) ?_ ?_
 ·intro i x hx H2 s2 C N hC
  obtain⟨a,ps,rfl,hei,_,as2,e2,hps⟩:=hls.get hx
  have hps2:=hok.2 ps (l17 hei)
  refine⟨(nfLe.refl _ _ _).set (by decide) _,iteT (B:=N H2) ⟨_,rfl,a,as2,ps,rfl,s2 _ _ e2,hps.same s2,hps2.r2,by rw[hps.len];have:=hps2.len;omega,λr H4 s4 d4=>hC _ H4 s4 ?_⟩⟩
  rw[hei]
  exact d4
 ·intro D H2 hD s2 dD
  rw[l6,hlen,ff] at dD
  exact q D H2 s2 dD
theorem ku {k:Nat}(F:Fun K "told" "Quote.told" dM f fd)(T:TxB K mg c BT)(hM:MV P w K mg base k "told" R ok (gN fB))(mR:MoR R):FnOk P w K mg base CX0 (k+1) f fd ["self"] (spTB c R fB ok λb=>∃bs,b = .quote bs):=by
 have sc:=lM
 refine F.oks sc λcdv A outer s H vs Q E hr h=>?_
 obtain⟨a,b,rfl,ha,⟨bs,rfl⟩,hok,q⟩:=h
 obtain⟨dx,l,e,as,el,hls⟩:=ha
 refine ao (xb1 (xret (xtup (xac xstr (xac (xlc (cl:=[]) (own:=["block"]) (fr:=[]) (N':=["block"]) rfl (bw (xs:=[]) trivial trivial (by decide +kernel)) (by decide +kernel) (by decide +kernel) (by with_unfolding_all rfl)
  (xil (xfld (xv 0)))
  (λ_ _ _ _=>xgn (i:=0) (show (["block"]:List Str).Nodup by decide +kernel) rfl (Or.inl rfl)) (λ_ _ _ _=>xq0) (λ_ _ _ _=>(xmV0C (k:=k) (xv 0) (hr.mono (by omega))))) xa0))))) ?_
 have hlen:=hls.len
 have hl:=hok.1
 refine⟨_,rfl,a,_,dx,_,_,rfl,e,T.o_Quote.cls,T.a_Quote_blocks,rfl,l,rfl,⟨_,SqL.of el⟩,?_⟩
 refine gE (λi=>((bs[i]?).map fB).getD .none) (SqL.of el) (by rw[l6];omega) ?_ ?_
 ·intro i x hx H2 s2 C N hC
  obtain⟨a,b,rfl,hei,_,ha⟩:=hls.get hx
  obtain⟨Cc,dx,fs,sp,e1,e2,V,hsp⟩:=hM b (hok.2 b (l17 hei)) H2 a (mR _ _ _ _ s2 ha)
  refine⟨(nfLe.refl _ _ _).set (by decide) _,iteT (B:=N H2) ⟨_,rfl,a,Cc,dx,fs,_,sp,rfl,e1,e2,V,hsp _ _ λv H4 ⟨s4,d4⟩=>hC v H4 s4 ?_⟩⟩
  rw[hei]
  exact d4
 ·intro D H2 hD s2 dD
  rw[l6,hlen,ff] at dD
  refine⟨big (show (2:Nat)<=1000000 by decide),λt ht=>?_⟩
  obtain⟨a1,a2⟩:=cS s2 ht (.cons (dn_k (k:="quote")) (.cons dD .nil))
  exact q _ _ a1 a2
theorem kv (F:Fun K "told" "Table.told" dO f fd)(T:TxB K mg c BT)(D_told_cells:Def P w K mg base 5 "told_cells" ["cells"] (spTC c)):FnOk P w K mg base CX0 6 f fd ["self"] (spTB c R fB ok λb=>∃hd sd ls,b = .table hd sd ls):=by
 have sc:=lO
 refine F.oks sc λcdv A outer s H vs Q E hr h=>?_
 obtain⟨a,b,rfl,ha,⟨hd,sd,ls,rfl⟩,hok,q⟩:=h
 obtain⟨dx,lh,lsd,ll,e,hh,es,as,el,hls⟩:=ha
 refine ao (xbc (xslc (i:=1) sc.nd rfl rfl (cl:=[]) (own:=["line"]) (fr:=[]) (N':=["line"]) rfl (bw (xs:=[]) trivial trivial (by decide +kernel)) (by decide +kernel) (by decide +kernel) (by with_unfolding_all rfl)
  (xil (xfld (xv 0)))
  (λ_ _ _ _=>xgn (i:=0) (show (["line"]:List Str).Nodup by decide +kernel) rfl (Or.inl rfl)) (λ_ _ _ _=>xq0) (λ_ _ _ _=>(xcd D_told_cells hr (xac (xv 0) xa0))))
  (xb1 (xret (xtup (xac xstr (xac (xcd D_told_cells hr (xac (xfld (xv 0)) xa0)) (xac (xcTy aA T.n_list rfl (xac (xfld (xv 0)) xa0)) (xac (xv 1) xa0)))))))) ?_
 rw[show aS p17 [V.ref a]=[some (V.ref a),none] from rfl]
 have hlen:=hls.len
 obtain⟨ok1,ok2,ok3,ok4⟩:=hok
 refine⟨_,rfl,a,_,dx,_,_,rfl,e,T.o_Table.cls,T.a_Table_lines,rfl,ll,rfl,⟨_,SqL.of el⟩,?_⟩
 refine gE (λi=>((ls[i]?).map bF).getD .none) (SqL.of el) (by rw[l6];omega) ?_ ?_
 ·intro i x hx H2 s2 C N hC
  obtain⟨a,l,rfl,hei,_,ha⟩:=hls.get hx
  refine⟨(nfLe.refl _ _ _).set (by decide) _,iteT (B:=N H2) ⟨_,rfl,a,l,rfl,gJ gK _ _ _ _ s2 ha,ok4 l (l17 hei),λr H4 s4 d4=>hC _ H4 s4 ?_⟩⟩
  rw[hei]
  exact d4
 ·intro D H1 hD s1 d1
  rw[l6,hlen,ff] at d1
  dsimp only[av,sA,sB]
  have hsd:∀b:Bool,Asc (bU b)/\(bU b).length<=1000:=λb=>by cases b <;> exact⟨aI _ rfl,by decide⟩
  refine⟨_,rfl,a,_,dx,_,_,rfl,s1 _ _ e,T.o_Table.cls,T.a_Table_head,rfl,lh,hd,rfl,hh.same gK s1,ok1,λr2 H2 s2 d2=>?_⟩
  refine⟨_,rfl,a,_,dx,_,_,rfl,s2 _ _ (s1 _ _ e),T.o_Table.cls,T.a_Table_sides,rfl,lsd,_,rfl, .inl (SqL.of (s2 _ _ (s1 _ _ es))),λp hp=>⟨_,rfl,big (show (4:Nat)<=1000000 by decide),λt ht=>?_⟩⟩
  obtain ⟨b1, b2⟩ := qb (s1.trans s2) hp (ds := sd.map fun b => PyData.str (S (bU b))) (xs := sd.map fun b => vS (bU b)) (by
   have:=dn_Ss (G:=dif H H2) (ls:=sd.map bU) (λl hl=>by obtain⟨b,_,rfl⟩:=l32.mp hl;exact hsd b)
   rw[l28,l28] at this
   exact this) (by rw[l6];omega)
  have sp:=ac hp (.lst (sd.map λb=>vS (bU b)))
  obtain⟨a1,a2⟩:=cS b1 ht (.cons (dn_k (k:="table")) (.cons (d2.same (bm s1 sp)) (.cons b2 (.cons (d1.same (bm (Same.refl _) (s2.trans sp))) .nil))))
  exact q _ _ a1 a2
end
end K11
namespace Lw
open PySem L2 Lm
def aL (l:List Nat):Bool:=decide (kindW (fP l)=pC)
theorem cb (rs:List (List (List Nat)))(q:List (List Nat)):betw (rs++[q])=betw rs++((if rs.isEmpty then [] else [[]])++q):=by
 cases rs with
 |nil=>show q++[]=[]++([]++q);simp
 |cons r rs=>
  show r++(rs++[q]).flatMap (λq=>[]::q)=(r++rs.flatMap λq=>[]::q)++_
  rw[l60]
  simp
theorem betw_sub {rs:List (List (List Nat))}{q:List (List Nat)}(h:q∈rs):q.length<=(betw rs).length/\∀r∈q,r∈betw rs:=by
 obtain⟨a,b,rfl⟩:=List.append_of_mem h
 rw[show a++q::b=(a++[q])++b by simp]
 have:∃z,betw (a++[q]++b)=betw (a++[q])++z:=by
  cases a with
  |nil=>exact⟨b.flatMap λq=>[]::q,by show q++b.flatMap _=(q++[])++_;simp⟩
  |cons x a=>exact⟨b.flatMap λq=>[]::q,by show x++(a++[q]++b).flatMap _=(x++(a++[q]).flatMap _)++_;rw[l60];simp⟩
 obtain⟨z,hz⟩:=this
 rw[hz,cb]
 refine⟨by simp only[l5];omega,λr hr=>?_⟩
 exact l44 _ (l30 _ (l30 _ hr))
theorem RowsOk.sub {rs:List (List (List Nat))}{q:List (List Nat)}(h:RowsOk (betw rs))(hq:q∈rs):RowsOk q:=by
 obtain⟨h1,h2⟩:=betw_sub hq
 exact⟨l10 h1 h.1,λr hr=>h.2 r (h2 r hr)⟩
theorem RowsOk.unq {rs:List (List Nat)}(h:RowsOk (rs.map fb)):RowsOk rs:=by
 refine⟨by have:=h.1;rwa [l6] at this,λr hr=>?_⟩
 obtain⟨h1,h2⟩:=h.2 _ (l48 hr)
 unfold fb at h1 h2
 split at h1
 ·rename_i hz;subst hz;exact⟨by simp,λ_ z=>nomatch z⟩
 ·rename_i hz
  rw[if_neg hz] at h2
  rw[l5] at h1
  exact⟨by omega,λx hx=>h2 x (l30 _ hx)⟩
theorem for_enum {K:PySem.W.Frag}{a:Addr}{xs:List V}{g:TG}{tb:TS}{D:Ends}{σ:St}{H:Hp}(Pv:Nat->St->Hp->Prop)(h0:Pv 0 σ H)(hl:∀i σ H,i<=xs.length->Pv i σ H->SqL K H a xs)
  (hs:∀i x σ H T,xs[i]? = some x->Pv i σ H->H T=none->g (.ref T) σ (upd H T (.tup [.int (i:Nat),x])) λσ2 H2=>tb { D with nx:=Pv (i+1),ct:=Pv (i+1),bk:=D.nx } σ2 H2) (hd:∀σ H,Pv xs.length σ H->D.nx σ H):
  ∃W:Nat->Nat->St->Hp->Prop,(∃m,W 0 m σ H)/\∀i m σ H,W i m σ H →
   ((Ite K a).stop i H/\D.nx σ H) ∨ ((Ite K a).go i H/\∃N:St->Hp->Prop,(∀σ' H',N σ' H'->∃m',m' < m/\W (i+1) m' σ' H')/\∀x H',(Ite K a).yld i H x H'->g x σ H' λσ2 H2=>tb { D with nx:=N,ct:=N,bk:=D.nx } σ2 H2):=by
 refine⟨λi m σ H=>m=xs.length - i/\i<=xs.length/\Pv i σ H,⟨xs.length,by simp,l14 _,h0⟩,?_⟩
 rintro i m σ H ⟨rfl,hi,p⟩
 have q:=hl i σ H hi p
 by_cases hlt:i < xs.length
 ·refine .inr ⟨⟨xs,xs[i],q,by simp[hlt]⟩,Pv (i+1),λσ' H' p'=>⟨xs.length - (i+1),by omega,rfl,hlt,p'⟩,?_⟩
  rintro x H' ⟨T,y,hy,hT,rfl,rfl⟩
  exact hs i y σ H T (hy xs q) p hT
 ·have e:i=xs.length:=by omega
  subst e
  exact .inl ⟨⟨xs,q,l7 _⟩,hd σ H p⟩
theorem cw {K:PySem.W.Frag}{a:Addr}{xs:List V}{k:Nat}{fr:List Nat}{g:TG}{tt:TT}{te:TE}{σ:St}{H0:Hp}{Q:Addr->Hp->Prop}(ts:List (List Nat))(hx:SqL K H0 a xs)(hlen:xs.length=ts.length)(hl:ts.length<=1000000)
  (ht:∀(i:Nat) x t,xs[i]? = some x->ts[i]? = some t->∀H',Same H0 H'->∀(C:V->Hp->Prop)(N:Hp->Prop),(∀H4,Same H' H4->C (vS t) H4) →
   g x (nfS k fr σ) H' λσ2 H2=>nfLe k fr σ σ2/\tt σ2 H2 λb H3=>if b=true then te σ2 H3 C else N H3)
  (hq:∀D H',H0 D=none->Same H0 H'->H' D=some (.lst (ts.map vS))->Q D H'):rLC k fr g tt te σ (Itl K a) H0 Q:=by
 intro D hD
 refine⟨λi m acc H=>m=xs.length - i/\i<=xs.length/\Same H0 H/\H D=some (.lst acc)/\acc=(ts.take i).map vS,⟨xs.length,by simp,l14 _,ac hD _,aa,rfl⟩,?_⟩
 rintro i m acc H ⟨rfl,hi,sm,hDa,rfl⟩
 refine⟨hDa,?_⟩
 by_cases hlt:i < xs.length
 ·refine .inr ⟨⟨xs,xs[i],sm.seq hx,by simp[hlt]⟩,λx H' y=>?_⟩
  obtain⟨e,y⟩:=y
  rw[e]
  have hti:ts[i]? = some ts[i]:=List.getElem?_eq_getElem (by omega)
  refine ht i x _ (y xs (sm.seq hx)) hti _ sm _ _ λH4 s4=>?_
  refine⟨s4 _ _ hDa,by rw[l6,l33,sizeLine_eq];omega,xs.length - (i+1),by omega,rfl,hlt,au hD (sm.trans s4),aa,?_⟩
  rw[l42,hti,l16]
  rfl
 ·have e:i=xs.length:=by omega
  subst e
  refine .inl ⟨⟨xs,sm.seq hx,l7 _⟩,hq D H hD sm ?_⟩
  rw[hDa,hlen,l40]
theorem mS (c:Nat)(y:List Nat):∀l:List Nat,bx y (aQ c l)=l.flatMap λx=>if x=c then y else [x]
 | []=>rfl
 |x::l=>by
  have ih:=mS c y l
  by_cases h:x=c
  ·subst h
   rw[bL,fw _ _ _ (jO x l),ih,l59,if_pos rfl]
   rfl
  ·obtain⟨p,t,e1,e2⟩:=aY c x l h
   rw[e2,l59,if_neg h,<- ih,e1]
   cases t with
   |nil=>rfl
   |cons q t=>rfl
theorem jh (l:List Nat):Lm.escC l=l.flatMap λx=>if x=124 then [92,124] else [x]:=mS 124 [92,124] l
theorem qd (l:List Nat):l.length<=(Lm.escC l).length:=by
 rw[jh]
 induction l with
 |nil=>exact l7 _
 |cons x l ih=>
  rw[l59,l5,l8]
  have:1<=(if x=124 then [92,124] else [x]:List Nat).length:=by split <;> simp
  omega
end Lw
namespace K11
open PySem L2 Lm Lw
section
variable {K:PySem.W.Frag}{σ:St}{H:Hp}{ta tb:TE}
theorem di {a C dx:Addr}{fs:List (Str×V)}{v:V}{fl:Str}(h:Ev ta σ H (.ref a))(e:H a=some (.ins C dx fs))(hc:Cls K C)(hn:NoAttr K C fl)(hl:fs.lookup fl=some v):Ev (tFld K ta fl) σ H v:=λR r=>h _ ⟨a,C,dx,fs,v,rfl,e,hc,hn,hl,r⟩
theorem l_one {t:TE}{Q:VK}(h:t σ H λx H1=>[x].length<=sizeLine/\∀p,H1 p=none->Q (.ref p) (upd H1 p (.lst [x]))):tLst (aE t tNil) σ H Q:=h
theorem lR {t:TE}{D:Ends}(h:t σ H λx H1=>[x].length<=sizeLine/\∀p,H1 p=none->D.rt (.ref p) (upd H1 p (.lst [x]))):tRet (tLst (aE t tNil)) D σ H:=h
theorem fH {tx:TE}{a:List Nat}{x:V}{sp:Sp}{Q:VK}(h1:Ev ta σ H (vS a))(hx:Ev tx σ H x)(h2:sp [x] H (λy H2=>∃i j,vS a = .str i/\y = .str j/\i.length+j.length<=sizeLine/\Q (.str (i++j)) H2) E0):tOp (λx y H Q=>∃i j,x = .str i/\y = .str j/\i.length+j.length<=sizeLine/\Q (.str (i++j)) H) ta (cG sp [] E0 (aE tx tNil)) σ H Q:=h1 _ (hx _ h2)
end
def spWB {β:Type}(c:Cb)(R:Hp->Addr->β->Prop)(fr:β->List (List Nat))(ok:β->Prop)(S:BkF β->Prop):Sp:=λvs H Q _=>∃a b,vs=[.ref a]/\BAtF c R H a b/\S b/\OkBF ok b/\RowsOk (fM aL fr b)/\∀r H',Same H H'->H r=none->H' r=some (.lst ((fM aL fr b).map vS))->Q (.ref r) H'
def qe {β:Type}(fr:β->List (List Nat)):β->Hp->V->Hp->Prop:=λb H v H'=>Same H H'/\∃r,v = .ref r/\H r=none/\H' r=some (.lst ((fr b).map vS))
def spES (c:Cb)(n:Nat):Sp:=λvs H Q _=>∃(l:Addr) (es:List (En n)) (ah:List Nat),vs=[.ref l,vS ah]/\LAt (EAt c n) H l es/\es.length<=1000/\(∀e∈es,OkE n e)/\RowsOk (bo n ah es)/\ah.length+2 * n<=1000/\∀r H',Same H H'->H r=none->H' r=some (.lst ((bo n ah es).map vS))->Q (.ref r) H'
def spRB {β:Type}(R:Hp->Addr->β->Prop)(fr:β->List (List Nat))(ok:β->Prop):Sp:=λvs H Q _=>∃(l:Addr) (bs:List β),vs=[.ref l]/\LAt R H l bs/\bs.length<=1000/\(∀b∈bs,ok b)/\RowsOk (betw (bs.map fr))/\∀r H',Same H H'->H r=none->H' r=some (.lst ((betw (bs.map fr)).map vS))->Q (.ref r) H'
def spCR (c:Cb):Sp:=λvs H Q _=>∃(l:Addr) (cs:List (List PC)),vs=[.ref l]/\LAt (PL c.cp) H l cs/\OkCs cs/\(bi cs).length<=100000/\∀H',Same H H'->Q (vS (bi cs)) H'
def mT:Sp:=λvs H Q _=>∃(l:Addr) (ts:List (List Nat)),vs=[.ref l]/\H l=some (.lst (ts.map vS))/\ts.length<=1000/\(bZ ts).length<=100000/\∀H',Same H H'->Q (vS (bZ ts)) H'
def spSR:Sp:=λvs H Q _=>∃(l:Addr) (sd:List Bool),vs=[.ref l]/\H l=some (.lst (sd.map λb=>vS (bU b)))/\sd.length<=1000/\(ca sd).length<=100000/\∀H',Same H H'->Q (vS (ca sd)) H'
def spWC (c:Cb):Sp:=λvs H Q _=>∃(l:Addr) (ps:List PC),vs=[.ref l]/\PL c.cp H l ps/\OkPs ps/\(bR ps).length<=100000/\∀H',Same H H'->Q (vS (bR ps)) H'
def spQu:Sp:=λvs H Q _=>∃l:List Nat,vs=[vS l]/\l.length<=100000/\∀H',Same H H'->Q (vS (fb l)) H'
section
variable {c:Cb}{BT:Addr}{β:Type}{R:Hp->Addr->β->Prop}{fr:β->List (List Nat)}{ok:β->Prop}
abbrev fh:Stmt:=meth 38 2
abbrev mU:Stmt:=meth 39 2
abbrev fj:Stmt:=meth 40 2
abbrev gP:Stmt:=meth 41 2
abbrev fW:Stmt:=meth 42 2
abbrev fX:Stmt:=meth 43 2
abbrev fk:Stmt:=meth 48 2
abbrev gQ:Stmt:=meth 53 2
theorem om:FnScope ["self"] ["self"] (ad fh):=mkS
theorem scParaW:FnScope ["self","raw"] ["self"] (ad mU):=mkS
theorem oo:FnScope ["self"] ["self"] (ad fj):=mkS
theorem scQuoteW:FnScope ["self"] ["self"] (ad gP):=mkS
theorem qf:FnScope ["self"] ["self"] (ad fW):=mkS
theorem qg:FnScope ["self"] ["self"] (ad fX):=mkS
theorem oq:FnScope ["self"] ["self"] (ad fk):=mkS
theorem scTableW:FnScope ["self","rows"] ["self"] (ad gQ):=mkS
theorem dj {r:List Nat}(h:RowsOk [r]):r.length<=100000:=(h.2 r l13).1
theorem or (F:Fun K "written" "Naming.written" fW f fd)(T:TxB K mg c BT):FnOk P w K mg base CX0 1 f fd ["self"] (spWB c R fr ok λb=>∃n t,b = .name n t):=by
 have sc:=qf
 refine F.oks sc λcdv A outer s H vs Q E hr h=>?_
 obtain⟨a,b,rfl,ha,⟨n,u,rfl⟩,hok,hro,q⟩:=h
 obtain⟨dx,e⟩:=ha
 refine ao (xb1 (xret (xlst (xac (xop ae (xop ae (xop ae xstr (xfld (xv 0))) xstr) (xfld (xv 0))) xa0)))) ?_
 have hl:=dj hro
 simp only[l5,l8,l23] at hl
 refine lR ?_
 refine aH (aH (aH (aN (b:=[91]) rfl) (di (v:=vS n) (ev_v rfl) e T.o_Naming.cls T.a_Naming_name rfl) (by simp;omega)) (aN (b:=[93,58,32]) rfl) (by simp;omega)) (di (v:=vS u) (ev_v rfl) e T.o_Naming.cls T.a_Naming_target rfl) (by simp;omega) _ ⟨big (show (1:Nat)<=1000000 by decide),λt ht=>q t _ (ac ht _) ht aa⟩
theorem ou (F:Fun K "written" "Noting.written" fX f fd)(T:TxB K mg c BT)(D_raw_of:Def P w K mg base 5 "raw_of" ["parts"] (eY c.cp R2)):FnOk P w K mg base CX0 6 f fd ["self"] (spWB c R fr ok λb=>∃n ps,b = .note n ps):=by
 have sc:=qg
 refine F.oks sc λcdv A outer s H vs Q E hr h=>?_
 obtain⟨a,b,rfl,ha,⟨n,ps,rfl⟩,hok,hro,q⟩:=h
 obtain⟨dx,l,e,as,el,hps⟩:=ha
 refine ao (xb1 (xret (xlst (xac (xop ae (xop ae (xop ae xstr (xfld (xv 0))) xstr) (xcd D_raw_of hr (xac (xfld (xv 0)) xa0))) xa0)))) ?_
 have hps2:OkPs ps:=hok.2
 have hl:=dj hro
 simp only[l5,l8,l23] at hl
 refine lR ?_
 refine fH (aH (aH (aN (b:=[91,94]) rfl) (di (v:=vS n) (ev_v rfl) e T.o_Noting.cls T.a_Noting_name rfl) (by simp;omega)) (aN (b:=[93,58,32]) rfl) (by simp;omega)) (di (ev_v rfl) e T.o_Noting.cls T.a_Noting_parts rfl) ⟨l,as,ps,rfl,el,hps,hps2.r2,by rw[hps.len];have:=hps2.len;omega,by omega,λH1 s1=>⟨_,_,rfl,rfl,by rw[am,am,sizeLine_eq];simp;omega,big (show (1:Nat)<=1000000 by decide),λt ht=>?_⟩⟩
 rw[bb]
 exact q t _ (s1.trans (ac ht _)) (s1.free ht) aa
theorem lS (F:Fun K "written" "Heading.written" fh f fd)(T:TxB K mg c BT)(D_raw_of:Def P w K mg base 5 "raw_of" ["parts"] (eY c.cp R2)):FnOk P w K mg base CX0 6 f fd ["self"] (spWB c R fr ok λb=>∃n ps,b = .heading n ps):=by
 have sc:=om
 refine F.oks sc λcdv A outer s H vs Q E hr h=>?_
 obtain⟨a,b,rfl,ha,⟨n,ps,rfl⟩,hok,hro,q⟩:=h
 obtain⟨dx,l,e,as,el,hps⟩:=ha
 refine ao (xb1 (xret (xlst (xac (xop ae (xop ae (xop dz xstr (xfld (xv 0))) xstr) (xcd D_raw_of hr (xac (xfld (xv 0)) xa0))) xa0)))) ?_
 have hn:n<=3:=hok.1
 have hps2:OkPs ps:=hok.2
 have hl:=dj hro
 simp only[l5,l8,l23] at hl
 have hm:Ev (tOp (λx y H Q=>∃z n,x = .str z/\y = .int n/\z.length=1/\0<=n/\n<=1000/\Q (.str (Txt.mul z n)) H) (tC (.str "=")) (tFld K (tVar 0) "level")) [some (.ref a)] H (vS (List.replicate n 61)):=λR r=>by
  show tFld _ _ _ _ _ _
  refine di (v := .int n) (ev_v rfl) e T.o_Heading.cls T.a_Heading_level rfl _ ⟨_,_,rfl,rfl,rfl,by omega,by omega,?_⟩
  rw[show Txt.mul (Str.ofString "=") (n:Int)=S (List.replicate n 61) from iY 61 n]
  exact r
 refine lR ?_
 refine fH (aH hm (aN (b:=[32]) rfl) (by simp;omega)) (di (ev_v rfl) e T.o_Heading.cls T.a_Heading_parts rfl) ⟨l,as,ps,rfl,el,hps,hps2.r2,by rw[hps.len];have:=hps2.len;omega,by omega,λH1 s1=>⟨_,_,rfl,rfl,by rw[am,am,sizeLine_eq];simp;omega,big (show (1:Nat)<=1000000 by decide),λt ht=>?_⟩⟩
 rw[bb]
 exact q t _ (s1.trans (ac ht _)) (s1.free ht) aa
theorem ok_ParaW (F:Fun K "written" "Para.written" mU f fd)(T:TxB K mg c BT)(D_raw_of:Def P w K mg base 5 "raw_of" ["parts"] (eY c.cp R2))(D_sort_of:Def P w K mg base 4 "sort_of" ["row"] (mE K)):FnOk P w K mg base CX0 6 f fd ["self"] (spWB c R fr ok λb=>∃ps,b = .para ps):=by
 have sc:=scParaW
 refine F.oks sc λcdv A outer s H vs Q E hr h=>?_
 obtain⟨a,b,rfl,ha,⟨ps,rfl⟩,hok,hro,q⟩:=h
 obtain⟨dx,l,e,as,el,hps⟩:=ha
 refine ao (xbc (xset (i:=1) sc.nd rfl (Or.inl rfl) (xcd D_raw_of hr (xac (xfld (xv 0)) xa0)))
  (xb1 (xret (xifE (aw aD (xix al (xcd D_sort_of hr (xac (xv 1) xa0)) xint (λ_ _=>rfl)) xstr (ai _)) (xlst (xac (xv 1) xa0)) (xlst (xac (xop ae xstr (xv 1)) xa0)))))) ?_
 rw[show aS ["self","raw"] [V.ref a]=[some (V.ref a),none] from rfl]
 have hps2:OkPs ps:=hok
 have hl:(if aL (raws false ps) then raws false ps else 92::raws false ps).length<=100000:=dj hro
 have hl2:(raws false ps).length<=100000:=by
  split at hl
  ·exact hl
  ·rw[l8] at hl;omega
 refine⟨_,rfl,a,_,dx,_,_,rfl,e,T.o_Para.cls,T.a_Para_parts,rfl,l,as,ps,rfl,el,hps,hps2.r2,by rw[hps.len];have:=hps2.len;omega,hl2,λH1 s1=>?_⟩
 have q:∀r H',Same H H'->H r=none->H' r=some (.lst [vS (if aL (raws false ps) then raws false ps else 92::raws false ps)])->Q (.ref r) H':=q
 dsimp only[av,sA,sB]
 generalize raws false ps=rw0 at hl2 q ⊢
 refine⟨_,rfl,rw0,rfl,by omega,λp H2 s2 hp=>?_⟩
 obtain⟨ys,ep,_,_⟩:=hp.parts
 refine⟨p,_,0,_,rfl,rfl,SqT.of ep,aC (j:=0) rfl,rfl,_,rfl,?_⟩
 have hd:decide (vS (kindW (fP rw0))=V.str (Str.ofString "plain"))=aL rw0:=by
  unfold aL
  exact decide_eq_decide.mpr ⟨λz=>hZ (V.str.inj z),λz=>by rw[z];rfl⟩
 rw[hd]
 have s12:=s1.trans s2
 cases hpl:aL rw0 with
 |true=>
  rw[hpl] at q
  exact iteT ⟨_,rfl,big (show (1:Nat)<=1000000 by decide),λt ht=>q t _ (s12.trans (ac ht _)) (s12.free ht) aa⟩
 |false=>
  rw[hpl] at q
  refine iteF (l_one ?_)
  exact aH (aN (b:=[92]) rfl) (ev_v (v:=vS rw0) rfl) (by show 1+_<=_;omega) _ ⟨big (show (1:Nat)<=1000000 by decide),λt ht=>q t _ (s12.trans (ac ht _)) (s12.free ht) aa⟩
theorem lT (F:Fun K "written" "Literal.written" fj f fd)(T:TxB K mg c BT):FnOk P w K mg base CX0 1 f fd ["self"] (spWB c R fr ok λb=>∃ls,b = .lit ls):=by
 have sc:=oo
 refine F.oks sc λcdv A outer s H vs Q E hr h=>?_
 obtain⟨a,b,rfl,ha,⟨ls,rfl⟩,hok,hro,q⟩:=h
 obtain⟨dx,l,e,el⟩:=ha
 refine ao (xb1 (xret (xop fJ (xop fJ (xlst (xac (xgS T.g_FENCE) xa0)) (xfld (xv 0))) (xlst (xac (xgS T.g_FENCE) xa0))))) ?_
 have hl:ls.length<=1000:=hok.1
 have hs:sizeLine=16777216:=sizeLine_eq
 refine⟨big (show (1:Nat)<=1000000 by decide),λt1 h1=>?_⟩
 have s1:=ac h1 (.lst [vS [126,126,126]])
 have e1:upd H t1 (.lst [vS [126,126,126]]) t1=some (.lst [vS [126,126,126]]):=aa
 show tFld _ _ _ _ (upd H t1 (.lst [vS [126,126,126]])) _
 generalize upd H t1 (.lst [vS [126,126,126]])=H1 at s1 e1 ⊢
 refine di (ev_v rfl) (s1 _ _ e) T.o_Literal.cls T.a_Literal_lines rfl _ ⟨t1,l,_,_,rfl,rfl,e1,s1 _ _ el,by rw[l6,hs];show 1+_<=_;omega,λt2 h2=>⟨big (show (1:Nat)<=1000000 by decide),λt3 h3=>?_⟩⟩
 have s2:=ac h2 (.lst ([vS [126,126,126]]++ls.map vS))
 have s3:=ac h3 (.lst [vS [126,126,126]])
 refine⟨t2,t3,_,_,rfl,rfl,s3 _ _ aa,aa,by rw[l5,l6,hs];show 1+_+1<=_;omega,λt4 h4=>?_⟩
 have s13:=(s1.trans s2).trans s3
 refine q t4 _ (s13.trans (ac h4 _)) (s13.free h4) ?_
 rw[aa]
 show _=some (HO.lst (([[126,126,126]]++ls++[[126,126,126]]).map vS))
 rw[l16,l16]
 rfl
theorem lU {k:Nat}(F:Fun K "written" "Listing.written" fk f fd)(T:TxB K mg c BT)(D_entry_rows:Def P w K mg base k "entry_rows" p20 (spES c 6)):FnOk P w K mg base CX0 (k+1) f fd ["self"] (spWB c R fr ok λb=>∃es,b = .lst es):=by
 have sc:=oq
 refine F.oks sc λcdv A outer s H vs Q E hr h=>?_
 obtain⟨a,b,rfl,ha,⟨es,rfl⟩,hok,hro,q⟩:=h
 obtain⟨dx,l,e,hl⟩:=ha
 refine ao (xb1 (xret (xcd D_entry_rows hr (xac (xfld (xv 0)) (xac xstr xa0))))) ?_
 exact di (ev_v rfl) e T.o_Listing.cls T.a_Listing_entries rfl _ ⟨l,es,[],rfl,hl,hok.1,hok.2,hro,by decide,q⟩
abbrev lV:Stmt:=top 44
theorem scQuoted:FnScope ["row"] ["row"] (ad lV):=mkS
theorem qh (F:Fun K "quoted" "quoted" lV f fd):FnOk P w K mg base CX0 1 f fd ["row"] spQu:=by
 have sc:=scQuoted
 refine F.oks sc λcdv A outer s H vs Q E hr h=>?_
 obtain⟨l,rfl,hl,q⟩:=h
 refine ao (xb1 (xret (xifE (aw aD (xv 0) xstr (ai _)) xstr (xop ae xstr (xv 0))))) ?_
 refine t_eq l [] rfl (ev_v rfl) _ λH1 s1=>?_
 have q:=q H1 s1
 unfold fb at q
 by_cases h:l=[]
 ·rw[decide_eq_true h]
  rw[if_pos h] at q
  exact iteT q
 ·rw[decide_eq_false h]
  rw[if_neg h] at q
  exact iteF (aH (aN (b:=[62,32]) rfl) (ev_v rfl) (by show 2+_<=_;omega) _ q)
abbrev qi:Stmt:=top 45
theorem scRowsB:FnScope ["blocks","rows","number","block"] ["blocks"] (ad qi):=mkS
theorem mV {k:Nat}(F:Fun K "rows_between" "rows_between" qi f fd)(T:TxB K mg c BT)(hM:MV P w K mg base k "written" R (λb=>ok b/\RowsOk (fr b)) (qe fr))(mR:MoR R):FnOk P w K mg base CX0 (k+1) f fd ["blocks"] (spRB R fr ok):=by
 have sc:=scRowsB
 refine F.oks sc λcdv A outer s H vs Q E hr h=>?_
 obtain⟨l,bs,rfl,⟨as,el,hls⟩,hbl,hok,hro,q⟩:=h
 refine ao (xbc (xset (i:=1) sc.nd rfl (Or.inl rfl) (xlst xa0))
  (xbc (xfor PassesOwn.never rfl (xie T.n_enumerate (xac (xv 0) xa0)) (xgt rfl (xgsc (xgn (i:=2) sc.nd rfl (Or.inl rfl)) (xgsc (xgn (i:=3) sc.nd rfl (Or.inl rfl)) xgs0)))
  (xbc (xif (aw hV (xv 2) xint (ai _)) (xb1 (b8 (xm PySem.F.plainAttrs_list PySem.F.slot_list_append PySem.F.type_list_append aP (xv 1) (xac xstr xa0)))) xb0)
  (xb1 (b8 (xm PySem.F.plainAttrs_list PySem.F.slot_list_extend PySem.F.type_list_extend cZ (xv 1) (xac (xmV0 (k:=k) (xv 3) (hr.mono (by omega))) xa0))))))
  (xb1 (xret (xv 1))))) ?_
 have hs:sizeLine=16777216:=sizeLine_eq
 rw[show aS ["blocks","rows","number","block"] [V.ref l]=[some (V.ref l),none,none,none] from rfl]
 have hlen:=hls.len
 refine⟨big (show (0:Nat)<=1000000 by decide),λr hr0=>?_⟩
 have s1:=ac hr0 (.lst [])
 have e1:upd H r (.lst []) r=some (.lst []):=aa
 dsimp only[av,sA,sB]
 generalize upd H r (.lst [])=H1 at s1 e1 ⊢
 refine⟨_,rfl,l,_,rfl,s1 _ _ el,?_⟩
 refine for_enum (xs:=as.map V.ref) (λi σ H'=>∃x2 x3,σ=[some (.ref l),some (.ref r),x2,x3]/\Same H H'/\H' r=some (.lst ((betw ((bs.take i).map fr)).map vS))) ⟨none,none,rfl,s1,e1⟩ ?_ ?_ ?_
 ·rintro i σ H3 _ ⟨_,_,_,s3,_⟩
  exact SqL.of (s3 _ _ el)
 ·rintro i x σ H3 U hx ⟨x2,x3,rfl,s3,e3⟩ hU
  obtain⟨a,b,rfl,hbi,_,ha⟩:=hls.get hx
  have hm:=l17 hbi
  have hbm:fr b∈bs.map fr:=l48 hm
  have s3':=ac hU (.tup [.int (i:Nat),V.ref a])
  have etk:(bs.take (i+1)).map fr=(bs.take i).map fr++[fr b]:=by rw[l42,hbi,l16];rfl
  have hpre:(betw ((bs.take (i+1)).map fr)).length<=(betw (bs.map fr)).length:=by
   have:∀(xs ys:List (List (List Nat))),(betw xs).length<=(betw (xs++ys)).length:=λxs ys=>by
    induction ys generalizing xs with
    |nil=>rw[l31];exact l7 _
    |cons y ys ih=>
     have h1:=ih (xs++[y])
     rw[cb,l24] at h1
     rw[show xs++y::ys=xs++([y]++ys) from rfl]
     rw[l5] at h1
     omega
   have h2:=this ((bs.take (i+1)).map fr) ((bs.drop (i+1)).map fr)
   rwa [<- l16,l58] at h2
  have hro1:=hro.1
  rw[etk,cb]
  rw[etk,cb,l5,l5] at hpre
  refine⟨U,_,rfl,SqT.of aa,rfl,?_⟩
  generalize upd H3 U (.tup [.int (i:Nat),V.ref a])=H4 at s3' ⊢
  have s4:=s3.trans s3'
  have e4:=s3' _ _ e3
  refine⟨_,_,rfl,_,_,rfl,rfl,?_⟩
  show tSeq _ _ _ [some (V.ref l),some (V.ref r),some (V.int i),some (V.ref a)] H4
  have hemp:(bs.take i).map fr=[] ↔ i=0:=by
   rw[List.map_eq_nil_iff]
   have hil:=(List.getElem?_eq_some_iff.mp hbi).1
   constructor
   ·intro z
    have:=congrArg List.length z
    rw[l33,l23] at this
    omega
   ·intro z;rw[z];rfl
  obtain⟨gp,hgp⟩:∃gp:List (List Nat),gp=if ((bs.take i).map fr).isEmpty then [] else [[]]:=⟨_,rfl⟩
  have hgl:gp.length<=1:=by rw[hgp];split <;> simp
  rw[<- hgp] at hpre ⊢
  refine bt (λσ' H'=>σ'=[some (V.ref l),some (V.ref r),some (V.int i),some (V.ref a)]/\Same H H'/\H' r=some (.lst ((betw ((bs.take i).map fr)++gp).map vS))) (λN hN=>?_) ?_
  ·refine s_if (decide ((0:Int) < i)) (λR k=>⟨_,rfl,_,_,rfl,rfl,_,rfl,k _ (Same.refl _)⟩) (λH5 s5 z=>?_) λH5 s5 z=>hN _ _ ⟨rfl,s4.trans s5,?_⟩
   ·have z:=of_decide_eq_true z
    have e5:=s5 _ _ e4
    refine⟨_,rfl, .inl ⟨rfl,_,SqL.of e5⟩,r,_,_,rfl,rfl,e5,by rw[l6,hs];omega,hN _ _ ⟨rfl,au hr0 (s4.trans s5),?_⟩⟩
    rw[aa,hgp,if_neg (by rw[l64,hemp];omega),l16]
    rfl
   ·have z:=of_decide_eq_false z
    rw[hgp,if_pos (by rw[l64,hemp];omega),l31]
    exact s5 _ _ e4
  ·rintro σ' H5 ⟨rfl,s5,e5⟩
   obtain⟨Cc,dx,fs,sp,f1,f2,V,hsp⟩:=hM b ⟨hok b hm,hro.sub hbm⟩ H5 a (mR _ _ _ _ s5 ha)
   refine⟨_,rfl, .inl ⟨rfl,_,SqL.of e5⟩,_,rfl,a,Cc,dx,fs,_,sp,rfl,f1,f2,V,hsp _ _ λv H6 ⟨s6,q6,hv,n6,e6⟩=>?_⟩
   subst hv
   refine⟨r,q6,_,_,rfl,rfl,s6 _ _ e5,e6,by rw[l6,l6,l5,hs];omega,?_⟩
   refine⟨_,_,rfl,au hr0 (s5.trans s6),?_⟩
   rw[aa,<- l16,l24]
 ·rintro σ H3 ⟨x2,x3,rfl,s3,e3⟩
  rw[l6,hlen,l40] at e3
  exact⟨_,rfl,q r H3 s3 hr0 e3⟩
theorem qj {k:Nat}(F:Fun K "written" "Quote.written" gP f fd)(T:TxB K mg c BT)(D_rows_between:Def P w K mg base k "rows_between" ["blocks"] (spRB R fr ok))(D_quoted:Def P w K mg base 1 "quoted" ["row"] spQu)(mR:MoR R):FnOk P w K mg base CX0 (k+2) f fd ["self"] (spWB c R fr ok λb=>∃bs,b = .quote bs):=by
 have sc:=scQuoteW
 refine F.oks sc λcdv A outer s H vs Q E hr h=>?_
 obtain⟨a,b,rfl,ha,⟨bs,rfl⟩,hok,hro,q⟩:=h
 obtain⟨dx,l,e,hl⟩:=ha
 have hu:(A.deeper (PyProof.Rows.envOfC "Quote.written" (ad gP) s.heap.objs.size f cdv)).units+64 < cLine:=by
  have:=hr.un
  omega
 refine ao (xbc (xif (aw (jY hu) (xfld (xv 0)) (xlst xa0) (ai _)) (xb1 (xret (xlst (xac xstr xa0)))) xb0)
  (xb1 (xret (xlc (cl:=[]) (own:=["row"]) (fr:=[]) (N':=["row"]) rfl (bw (xs:=[]) trivial trivial (by decide +kernel)) (by decide +kernel) (by decide +kernel) (by with_unfolding_all rfl)
  (xil (xcd D_rows_between hr (xac (xfld (xv 0)) xa0)))
  (λ_ _ _ _=>xgn (i:=0) (show (["row"]:List Str).Nodup by decide +kernel) rfl (Or.inl rfl)) (λ_ _ _ _=>xq0) (λ_ _ _ _=>(xcd D_quoted hr (xac (xv 0) xa0))))))) ?_
 obtain⟨as,el,hls⟩:=id hl
 have hlen:=hls.len
 refine⟨_,rfl,a,_,dx,_,_,rfl,e,T.o_Quote.cls,T.a_Quote_blocks,rfl,big (show (0:Nat)<=1000000 by decide),λo ho=>?_⟩
 have s1:=ac ho (.lst [])
 refine⟨l,o,_,rfl,rfl,SqL.of (s1 _ _ el),SqL.of aa,_,rfl,?_⟩
 generalize upd H o (.lst [])=H1 at s1 ⊢
 have hem:(as.map V.ref).isEmpty=bs.isEmpty:=by
  cases as with
  |nil=>cases bs with
   |nil=>rfl
   |cons _ _=>cases hlen
  |cons _ _=>cases bs with
   |nil=>cases hlen
   |cons _ _=>rfl
 have q:∀r H',Same H H'->H r=none->H' r=some (.lst ((if bs.isEmpty then [[62]] else (betw (bs.map fr)).map fb).map vS))->Q (.ref r) H':=q
 have hro:RowsOk (if bs.isEmpty then [[62]] else (betw (bs.map fr)).map fb):=hro
 show (if (as.map V.ref).isEmpty=true then _ else _:Prop)
 rw[hem]
 cases hb:bs.isEmpty with
 |true=>
  rw[hb] at q
  exact iteT (lR ⟨big (show (1:Nat)<=1000000 by decide),λt ht=>q t _ (s1.trans (ac ht _)) (s1.free ht) aa⟩)
 |false=>
  rw[hb] at q hro
  refine iteF ?_
  have hro2:RowsOk (betw (bs.map fr)):=RowsOk.unq hro
  refine⟨_,rfl,a,_,dx,_,_,rfl,s1 _ _ e,T.o_Quote.cls,T.a_Quote_blocks,rfl,l,bs,rfl,hl.same mR s1,hok.1,hok.2,hro2,λr H2 s2 hr2 e2=>⟨r,rfl,⟨_,SqL.of e2⟩,?_⟩⟩
  have h1:=hro2.1
  refine cw ((betw (bs.map fr)).map fb) (SqL.of e2) (by rw[l6,l6]) (by rw[l6];omega) ?_ ?_
  ·intro i x t hx ht H3 s3 C N hC
   rw[List.getElem?_map] at hx ht
   cases hri:(betw (bs.map fr))[i]? with
   |none=>rw[hri] at hx;cases hx
   |some rw0=>
    rw[hri] at hx ht
    cases hx
    cases ht
    exact⟨(nfLe.refl _ _ _).set (by decide) _,iteT (B:=N H3) ⟨_,rfl,rw0,rfl,(hro2.2 _ (l17 hri)).1,λH4 s4=>hC H4 s4⟩⟩
  ·intro D H3 hD s3 e3
   exact q D H3 ((s1.trans s2).trans s3) ((s1.trans s2).free hD) e3
abbrev lW:Stmt:=top 58
theorem scBarred:FnScope ["texts"] ["texts"] (ad lW):=mkS
def barT (t:List Nat):List Nat:=if t=[] then [32,124] else [32]++t++[32,124]
theorem qk (ts:List (List Nat)):bZ ts=[124]++(ts.map barT).flatten:=by
 unfold bZ
 rw[List.flatMap_def]
 rfl
theorem ql (F:Fun K "barred" "barred" lW f fd):FnOk P w K mg base CX0 1 f fd ["texts"] mT:=by
 have sc:=scBarred
 refine F.oks sc λcdv A outer s H vs Q E hr h=>?_
 obtain⟨l,ts,rfl,el,hl,hb,q⟩:=h
 refine ao (xb1 (xret (xop ae xstr (xm PySem.F.plainAttrs_str PySem.F.slot_str_join PySem.F.type_str_join dX xstr (xac (xlc (cl:=[]) (own:=["text"]) (fr:=[]) (N':=["text"]) rfl (bw (xs:=[]) trivial trivial (by decide +kernel)) (by decide +kernel) (by decide +kernel) (by with_unfolding_all rfl)
  (xil (xv 0))
  (λ_ _ _ _=>xgn (i:=0) (show (["text"]:List Str).Nodup by decide +kernel) rfl (Or.inl rfl)) (λ_ _ _ _=>xq0) (λ_ _ _ _=>(xifE (aw aD (xv 0) xstr (ai _)) xstr (xop ae (xop ae xstr (xv 0)) xstr)))) xa0))))) ?_
 rw[qk] at hb q
 rw[l5] at hb
 have hm:∀t∈ts,t.length<=100000:=λt ht=>by
  have h1:(barT t).length<=((ts.map barT).flatten).length:=by
   obtain⟨x,y,rfl⟩:=List.append_of_mem ht
   rw[l16,l19,List.flatten_append,l50]
   simp only[l5]
   omega
  have h2:t.length<=(barT t).length:=by
   unfold barT
   split
   ·rename_i z;rw[z];exact l14 _
   ·simp only[l5];omega
  omega
 refine⟨rfl,_,rfl,l,rfl,⟨_,SqL.of el⟩,?_⟩
 refine cw (ts.map barT) (SqL.of el) (by rw[l6,l6]) (by rw[l6];omega) ?_ ?_
 ·intro i x t hx ht H3 s3 C N hC
  rw[List.getElem?_map] at hx ht
  cases hri:ts[i]? with
  |none=>rw[hri] at hx;cases hx
  |some t0=>
   rw[hri] at hx ht
   cases hx
   cases ht
   have ht0:=hm t0 (l17 hri)
   refine⟨(nfLe.refl _ _ _).set (by decide) _,iteT (B:=N H3) ?_⟩
   refine t_eq t0 [] rfl (ev_v rfl) _ λH4 s4=>?_
   have hC:=hC H4 s4
   unfold barT at hC
   by_cases h:t0=[]
   ·rw[decide_eq_true h]
    rw[if_pos h] at hC
    exact iteT hC
   ·rw[decide_eq_false h]
    rw[if_neg h] at hC
    exact iteF (aH (aH (aN (b:=[32]) rfl) (ev_v rfl) (by show 1+_<=_;omega)) (aN (b:=[32,124]) rfl) (by simp;omega) _ hC)
 ·intro D H3 hD s3 e3
  refine⟨S [],_,(ts.map barT).map S,rfl,rfl,SqL.of (e3.trans (by (conv=>rhs;rw[l28]);rfl)),eT _ (by omega),?_⟩
  rw[dZ,cI]
  refine⟨_,_,rfl,rfl,by show 1+(S _).length<=_;rw[am,sizeLine_eq];omega,?_⟩
  rw[show Str.ofString "|"++S ((ts.map barT).flatten)=S ([124]++(ts.map barT).flatten) from bb [124] _]
  exact q H3 s3
abbrev sWC:Stmt:=top 59
theorem scWC:FnScope ["parts","raw"] ["parts"] (ad sWC):=mkS
theorem ok_wc (F:Fun K "written_cell" "written_cell" sWC f fd)(D_raw_of:Def P w K mg base 5 "raw_of" ["parts"] (eY c.cp R2))(D_cell_text:Def P w K mg base 1 "cell_text" ["text"] fG)(D_is_rule:Def P w K mg base 1 "is_rule" ["text"] pW):FnOk P w K mg base CX0 6 f fd ["parts"] (spWC c):=by
 have sc:=scWC
 refine F.oks sc λcdv A outer s H vs Q E hr h=>?_
 obtain⟨l,ps,rfl,⟨as,el,hps⟩,hps2,hl,q⟩:=h
 refine ao (xbc (xset (i:=1) sc.nd rfl (Or.inl rfl) (xcd D_raw_of hr (xac (xv 0) xa0)))
  (xb1 (xret (xcd D_cell_text hr (xac (xifE (bA (xcd D_is_rule hr (xac (xv 1) xa0))) (xop ae xstr (xv 1)) (xv 1)) xa0))))) ?_
 rw[show aS ["parts","raw"] [V.ref l]=[some (V.ref l),none] from rfl]
 unfold bR at hl q
 have hl1:=l10 (qd _) hl
 have hl2:(raws false ps).length<=100000:=by
  split at hl1
  ·rw[l8] at hl1;omega
  ·exact hl1
 refine⟨_,rfl,l,as,ps,rfl,el,hps,hps2.r2,by rw[hps.len];have:=hps2.len;omega,hl2,λH1 s1=>?_⟩
 dsimp only[av,sA,sB]
 generalize raws false ps=rw0 at hl hl1 hl2 q ⊢
 refine⟨_,rfl,rw0,rfl,by omega,λH2 s2=>⟨_,rfl,?_⟩⟩
 have q:=q H2 (s1.trans s2)
 cases hr:d9 rw0 with
 |true=>
  rw[hr] at q
  exact iteT (aH (aN (b:=[92]) rfl) (ev_v (v:=vS rw0) rfl) (by show 1+_<=_;omega) _ ⟨_,rfl,by rw[l5];show 1+_<=_;omega,q⟩)
 |false=>
  rw[hr] at q
  exact iteF ⟨_,rfl,rw0,rfl,by omega,q⟩
abbrev sCR:Stmt:=top 56
theorem scCR:FnScope ["cells"] ["cells"] (ad sCR):=mkS
theorem bars_le {t:List Nat}{ts:List (List Nat)}(h:t∈ts):t.length<=(bZ ts).length:=by
 rw[qk,l5]
 obtain⟨x,y,rfl⟩:=List.append_of_mem h
 rw[l16,l19,List.flatten_append,l50]
 have h2:t.length<=(barT t).length:=by
  unfold barT
  split
  ·rename_i z;rw[z];exact l14 _
  ·simp only[l5];omega
 simp only[l5]
 omega
theorem ok_cr (F:Fun K "cells_row" "cells_row" sCR f fd)(D_barred:Def P w K mg base 1 "barred" ["texts"] mT)(D_written_cell:Def P w K mg base 6 "written_cell" ["parts"] (spWC c)):FnOk P w K mg base CX0 7 f fd ["cells"] (spCR c):=by
 have sc:=scCR
 refine F.oks sc λcdv A outer s H vs Q E hr h=>?_
 obtain⟨l,cs,rfl,⟨as,el,hls⟩,hok,hl,q⟩:=h
 refine ao (xb1 (xret (xcd D_barred hr (xac (xlc (cl:=[]) (own:=["cell"]) (fr:=[]) (N':=["cell"]) rfl (bw (xs:=[]) trivial trivial (by decide +kernel)) (by decide +kernel) (by decide +kernel) (by with_unfolding_all rfl)
  (xil (xv 0))
  (λ_ _ _ _=>xgn (i:=0) (show (["cell"]:List Str).Nodup by decide +kernel) rfl (Or.inl rfl)) (λ_ _ _ _=>xq0) (λ_ _ _ _=>(xcd D_written_cell hr (xac (xv 0) xa0)))) xa0)))) ?_
 have hlen:=hls.len
 have hcl:=hok.1
 unfold bi at hl q
 refine⟨_,rfl,l,rfl,⟨_,SqL.of el⟩,?_⟩
 refine cw (cs.map bR) (SqL.of el) (by rw[l6,l6,hlen]) (by rw[l6];omega) ?_ ?_
 ·intro i x t hx ht H3 s3 C N hC
  obtain⟨a,ps,rfl,hpi,_,hp⟩:=hls.get hx
  rw[List.getElem?_map,hpi] at ht
  cases ht
  have hm:=l17 hpi
  exact⟨(nfLe.refl _ _ _).set (by decide) _,iteT (B:=N H3) ⟨_,rfl,a,ps,rfl,gK _ _ _ _ s3 hp,hok.2 ps hm,l10 (bars_le (l48 hm)) hl,λH4 s4=>hC H4 s4⟩⟩
 ·intro D H3 hD s3 e3
  exact⟨D,_,rfl,e3,by rw[l6];exact hcl,hl,λH4 s4=>q H4 (s3.trans s4)⟩
abbrev sSR:Stmt:=top 57
theorem scSR:FnScope ["sides"] ["sides"] (ad sSR):=mkS
theorem ok_sr (F:Fun K "sides_row" "sides_row" sSR f fd)(D_barred:Def P w K mg base 1 "barred" ["texts"] mT):FnOk P w K mg base CX0 2 f fd ["sides"] spSR:=by
 have sc:=scSR
 refine F.oks sc λcdv A outer s H vs Q E hr h=>?_
 obtain⟨l,sd,rfl,el,hsl,hl,q⟩:=h
 refine ao (xb1 (xret (xcd D_barred hr (xac (xlc (cl:=[]) (own:=["side"]) (fr:=[]) (N':=["side"]) rfl (bw (xs:=[]) trivial trivial (by decide +kernel)) (by decide +kernel) (by decide +kernel) (by with_unfolding_all rfl)
  (xil (xv 0))
  (λ_ _ _ _=>xgn (i:=0) (show (["side"]:List Str).Nodup by decide +kernel) rfl (Or.inl rfl)) (λ_ _ _ _=>xq0) (λ_ _ _ _=>(xifE (aw aD (xv 0) xstr (ai _)) xstr xstr))) xa0)))) ?_
 unfold ca at hl q
 refine⟨_,rfl,l,rfl,⟨_,SqL.of el⟩,?_⟩
 refine cw (sd.map λb=>if b then [45,45,58] else [45,45,45]) (SqL.of el) (by rw[l6,l6]) (by rw[l6];omega) ?_ ?_
 ·intro i x t hx ht H3 s3 C N hC
  rw[List.getElem?_map] at hx ht
  cases hri:sd[i]? with
  |none=>rw[hri] at hx;cases hx
  |some b=>
   rw[hri] at hx ht
   cases hx
   cases ht
   refine⟨(nfLe.refl _ _ _).set (by decide) _,iteT (B:=N H3) ?_⟩
   refine t_eq (bU b) [114,105,103,104,116] rfl (ev_v rfl) _ λH4 s4=>?_
   have hC:=hC H4 s4
   cases b with
   |true=>exact iteT hC
   |false=>exact iteF hC
 ·intro D H3 hD s3 e3
  exact⟨D,_,rfl,e3,by rw[l6];exact hsl,hl,λH4 s4=>q H4 (s3.trans s4)⟩
theorem qm (F:Fun K "written" "Table.written" gQ f fd)(T:TxB K mg c BT)(D_cells_row:Def P w K mg base 7 "cells_row" ["cells"] (spCR c))(D_sides_row:Def P w K mg base 2 "sides_row" ["sides"] spSR):FnOk P w K mg base CX0 8 f fd ["self"] (spWB c R fr ok λb=>∃hd sd ls,b = .table hd sd ls):=by
 have sc:=scTableW
 refine F.oks sc λcdv A outer s H vs Q E hr h=>?_
 obtain⟨a,b,rfl,ha,⟨hd,sd,ls,rfl⟩,hok,hro,q⟩:=h
 obtain⟨dx,lh,lsd,ll,e,hh,es,as,el,hls⟩:=ha
 obtain⟨ok1,ok2,ok3,ok4⟩:=hok
 have hu:(A.deeper (PyProof.Rows.envOfC "Table.written" (ad gQ) s.heap.objs.size f cdv)).units+64 < cLine:=by
  have:=hr.un
  omega
 refine ao (xbc (xslc (i:=1) sc.nd rfl rfl (cl:=[]) (own:=["line"]) (fr:=[]) (N':=["line"]) rfl (bw (xs:=[]) trivial trivial (by decide +kernel)) (by decide +kernel) (by decide +kernel) (by with_unfolding_all rfl)
  (xil (xfld (xv 0)))
  (λ_ _ _ _=>xgn (i:=0) (show (["line"]:List Str).Nodup by decide +kernel) rfl (Or.inl rfl)) (λ_ _ _ _=>xq0) (λ_ _ _ _=>(xcd D_cells_row hr (xac (xv 0) xa0))))
  (xbc (xif (aw (jY hu) (xfld (xv 0)) (xlst xa0) (ai _)) (xb1 (xret (xv 1))) xb0)
  (xb1 (xret (xop fJ (xlst (xac (xcd D_cells_row hr (xac (xfld (xv 0)) xa0)) (xac (xcd D_sides_row hr (xac (xfld (xv 0)) xa0)) xa0))) (xv 1)))))) ?_
 have hs:sizeLine=16777216:=sizeLine_eq
 rw[show aS ["self","rows"] [V.ref a]=[some (V.ref a),none] from rfl]
 have hlen:=hls.len
 have hro:RowsOk (if hd=[] then ls.map bi else [bi hd,ca sd]++ls.map bi):=hro
 have q:∀r H',Same H H'->H r=none->H' r=some (.lst ((if hd=[] then ls.map bi else [bi hd,ca sd]++ls.map bi).map vS))->Q (.ref r) H':=q
 have hln:∀l∈ls,(bi l).length<=100000:=λl hl=>by
  refine(hro.2 _ ?_).1
  split
  ·exact l48 hl
  ·exact l30 _ (l48 hl)
 refine⟨_,rfl,a,_,dx,_,_,rfl,e,T.o_Table.cls,T.a_Table_lines,rfl,ll,rfl,⟨_,SqL.of el⟩,?_⟩
 refine cw (ls.map bi) (SqL.of el) (by rw[l6,l6,hlen]) (by rw[l6];omega) ?_ ?_
 ·intro i x t hx ht H3 s3 C N hC
  obtain⟨b,l,rfl,hli,_,hl⟩:=hls.get hx
  rw[List.getElem?_map,hli] at ht
  cases ht
  have hm:=l17 hli
  exact⟨(nfLe.refl _ _ _).set (by decide) _,iteT (B:=N H3) ⟨_,rfl,b,l,rfl,gJ gK _ _ _ _ s3 hl,ok4 l hm,hln l hm,λH4 s4=>hC H4 s4⟩⟩
 intro D H1 hD s1 e1
 dsimp only[av,sA,sB]
 obtain⟨has,eh,hhl⟩:=id hh
 have hhlen:=hhl.len
 refine⟨_,rfl,a,_,dx,_,_,rfl,s1 _ _ e,T.o_Table.cls,T.a_Table_head,rfl,big (show (0:Nat)<=1000000 by decide),λo ho=>?_⟩
 have s2':=ac ho (.lst [])
 refine⟨lh,o,_,rfl,rfl,SqL.of (s2' _ _ (s1 _ _ eh)),SqL.of aa,_,rfl,?_⟩
 generalize upd H1 o (.lst [])=H2 at s2' ⊢
 have s2:=s1.trans s2'
 have e2:=s2' _ _ e1
 show (if (has.map V.ref).isEmpty=true then _ else _:Prop)
 by_cases hz:hd=[]
 ·subst hz
  have:has=[]:=l89 hhlen
  subst this
  rw[if_pos rfl] at q
  exact iteT ⟨_,rfl,q D H2 s2 hD e2⟩
 ·rw[if_neg hz] at q hro
  have hne:(has.map V.ref).isEmpty=false:=by
   cases has with
   |nil=>exact absurd (l89 hhlen.symm) hz
   |cons _ _=>rfl
  rw[hne]
  refine iteF ?_
  refine⟨_,rfl,a,_,dx,_,_,rfl,s2 _ _ e,T.o_Table.cls,T.a_Table_head,rfl,lh,hd,rfl,hh.same gK s2,ok1,(hro.2 _ l13).1,λH3 s3=>?_⟩
  have s13:=s2.trans s3
  refine⟨_,rfl,a,_,dx,_,_,rfl,s13 _ _ e,T.o_Table.cls,T.a_Table_sides,rfl,lsd,sd,rfl,s13 _ _ es,ok2,(hro.2 _ (l15 _ l13)).1,λH4 s4=>⟨big (show (2:Nat)<=1000000 by decide),λp hp=>?_⟩⟩
  have s5:=ac hp (.lst [vS (bi hd),vS (ca sd)])
  have s35:=(s3.trans s4).trans s5
  refine⟨_,rfl,p,D,_,_,rfl,rfl,aa,s35 _ _ e2,by rw[l6,l6,hs];show 2+_<=_;omega,λr hr'=>?_⟩
  have s15:=s2.trans s35
  refine q r _ (s15.trans (ac hr' _)) (s15.free hr') ?_
  rw[aa,l16]
  rfl
theorem qo {σ:St}{H:Hp}{tx ty:TE}{sp:Sp}{x y:V}{Q:List V->Hp->Prop}(hx:Ev tx σ H x)(hy:Ev ty σ H y)(h:sp [x,y] H (λv H'=>Q [v] H') E0):aE (cG sp [] E0 (aE tx (aE ty tNil))) tNil σ H Q:=
 (show tx σ H (λx' H1=>ty σ H1 λy' H2=>sp [x',y'] H2 (λv H'=>Q [v] H') E0) from hx _ (hy _ h))
abbrev sES:Stmt:=top 50
theorem scES:FnScope ["entries","ahead","rows","entry"] p20 (ad sES):=mkS
theorem ky {n:Nat}{ah:List Nat}(xs ys:List (EnF (En n))):bo (n+1) ah (xs++ys)=bo (n+1) ah xs++bo (n+1) ah ys:=l60
theorem mW {n i:Nat}{ah:List Nat}{es:List (En (n+1))}{e:En (n+1)}(h:es[i]? = some e):bo (n+1) ah (es.take (i+1))=bo (n+1) ah (es.take i)++((ah++bI (EnF.sign e)++[32]++raws false (EnF.parts e))::bo n (ah++[32,32]) (EnF.within e))/\∃z,bo (n+1) ah es=bo (n+1) ah (es.take (i+1))++z:=by
 have h1:es.take (i+1)=es.take i++[e]:=by rw[l42,h];rfl
 refine⟨(congrArg (bo (n+1) ah) h1).trans ((ky _ _).trans (congrArg (_ ++ ·) (l31 _))),_,(congrArg (bo (n+1) ah) (l58 (i+1) es).symm).trans (ky _ _)⟩
def stepE (c:Cb)(spI:Sp):Nat->Prop
 |0=>True
 |m+1=>∀vs H Q E,spES c m vs H Q E->spI vs H Q E
theorem ok_es {k:Nat}(n:Nat){spI:Sp}(F:Fun K "entry_rows" "entry_rows" sES f fd)(T:TxB K mg c BT)(D_raw_of:Def P w K mg base 5 "raw_of" ["parts"] (eY c.cp R2))(D_entry_rows:Def P w K mg base k "entry_rows" p20 spI)(hI:stepE c spI n):FnOk P w K mg base CX0 (k+6) f fd p20 (spES c n):=by
 have sc:=scES
 refine F.oks sc λcdv A outer s H vs Q E hr h=>?_
 obtain⟨l,es,ah,rfl,⟨as,el,hls⟩,hel,hok,hro,hah,q⟩:=h
 refine ao (xbc (xset (i:=2) sc.nd rfl (Or.inl rfl) (xlst xa0))
  (xbc (xfor PassesOwn.never rfl (xil (xv 0)) (xgn (i:=3) sc.nd rfl (Or.inl rfl))
  (xbc (b8 (xm PySem.F.plainAttrs_list PySem.F.slot_list_append PySem.F.type_list_append aP (xv 2) (xac (xop ae (xop ae (xop ae (xv 1) (xfld (xv 3))) xstr) (xcd D_raw_of hr (xac (xfld (xv 3)) xa0))) xa0)))
  (xb1 (b8 (xm PySem.F.plainAttrs_list PySem.F.slot_list_extend PySem.F.type_list_extend cZ (xv 2) (xac (xcd D_entry_rows hr (xac (xfld (xv 3)) (xac (xop ae (xv 1) xstr) xa0))) xa0))))))
  (xb1 (xret (xv 2))))) ?_
 have hs:sizeLine=16777216:=sizeLine_eq
 rw[show aS ["entries","ahead","rows","entry"] [V.ref l,vS ah]=[some (V.ref l),some (vS ah),none,none] from rfl]
 have hlen:=hls.len
 refine⟨big (show (0:Nat)<=1000000 by decide),λr hr0=>?_⟩
 have s1:=ac hr0 (.lst [])
 have e1:upd H r (.lst []) r=some (.lst []):=aa
 dsimp only[av,sA,sB]
 generalize upd H r (.lst [])=H1 at s1 e1 ⊢
 refine⟨_,rfl,l,rfl,⟨_,SqL.of (s1 _ _ el)⟩,?_⟩
 have h0:bo n ah []=[]:=by cases n <;> rfl
 refine bN (xs:=as.map V.ref) (λi σ H'=>∃x3,σ=[some (.ref l),some (vS ah),some (.ref r),x3]/\Same H H'/\H' r=some (.lst ((bo n ah (es.take i)).map vS))) ⟨none,rfl,s1,by rw[List.take_zero,h0];exact e1⟩ ?_ ?_ ?_
 ·rintro i σ H3 _ ⟨_,_,s3,_⟩
  exact SqL.of (s3 _ _ el)
 ·rintro i x σ H3 hx ⟨x3,rfl,s3,e3⟩
  obtain⟨a,en,rfl,hei,_,ha⟩:=hls.get hx
  have hm:=l17 hei
  cases n with
  |zero=>exact nomatch en
  |succ m=>
   obtain⟨hstep,z,hz⟩:=mW (ah:=ah) hei
   obtain⟨dx,lp,le,e,⟨aps,elp,hps⟩,hle⟩:=gM (m+1) _ _ _ _ s3 ha
   obtain⟨hps2,hwl,hw⟩:=hok en hm
   have hsub:∀r0∈(ah++bI (EnF.sign en)++[32]++raws false (EnF.parts en))::bo m (ah++[32,32]) (EnF.within en),r0.length<=100000/\Asc r0:=λr0 hr=>hro.2 r0 (by rw[hz,hstep];exact l44 _ (l30 _ hr))
   have hcnt:=hro.1
   rw[hz,hstep,l5,l5,l8] at hcnt
   have hrow:=(hsub _ l13).1
   simp only[l5,l8,l23] at hrow
   rw[hstep]
   dsimp only[av,sA,sB]
   refine⟨_,rfl, .inl ⟨rfl,_,SqL.of e3⟩,?_⟩
   refine fH (aH (aH (a:=ah) (ev_v rfl) (di (v:=vS (bI (EnF.sign en))) (ev_v rfl) e T.o_Entry.cls T.a_Entry_sign rfl) (by omega)) (aN (b:=[32]) rfl) (by simp;omega)) (di (ev_v rfl) e T.o_Entry.cls T.a_Entry_parts rfl) ⟨lp,aps,_,rfl,elp,hps,hps2.r2,by rw[hps.len];have:=hps2.len;omega,by omega,λH4 s4=>⟨_,_,rfl,rfl,by rw[am,am,sizeLine_eq];simp;omega,?_⟩⟩
   rw[bb]
   refine⟨r,_,_,rfl,rfl,s4 _ _ e3,by rw[l6,hs];omega,?_⟩
   have s5:Same H (upd H4 r (.lst ((bo (m+1) ah (es.take i)).map vS++[vS (ah++bI (EnF.sign en)++[32]++raws false (EnF.parts en))]))):=au hr0 (s3.trans s4)
   have e5:upd H4 r (.lst ((bo (m+1) ah (es.take i)).map vS++[vS (ah++bI (EnF.sign en)++[32]++raws false (EnF.parts en))])) r=some (.lst ((bo (m+1) ah (es.take i)).map vS++[vS (ah++bI (EnF.sign en)++[32]++raws false (EnF.parts en))])):=aa
   dsimp only
   generalize upd H4 r (.lst ((bo (m+1) ah (es.take i)).map vS++[vS (ah++bI (EnF.sign en)++[32]++raws false (EnF.parts en))]))=H5 at s5 e5 ⊢
   obtain⟨dx',lp',le',e',_,hle'⟩:=gM (m+1) _ _ _ _ s5 ha
   refine⟨_,rfl, .inl ⟨rfl,_,SqL.of e5⟩,?_⟩
   have hf:Ev (tFld K (tVar 3) "entries") [some (V.ref l),some (vS ah),some (V.ref r),some (V.ref a)] H5 (.ref le'):=di (ev_v rfl) e' T.o_Entry.cls T.a_Entry_entries rfl
   have hcat:Ev (tOp (λx y H Q=>∃i j,x = .str i/\y = .str j/\i.length+j.length<=sizeLine/\Q (.str (i++j)) H) (tVar 1) (tC (.str "  "))) [some (V.ref l),some (vS ah),some (V.ref r),some (V.ref a)] H5 (vS (ah++[32,32])):=aH (ev_v rfl) (aN (b:=[32,32]) rfl) (by show _+2<=_;omega)
   refine qo hf hcat (hI _ _ _ _ ⟨le',_,_,rfl,hle',hwl,hw,⟨by omega,λr0 hr=>hsub r0 (l15 _ hr)⟩,?_,λr2 H6 s6 hr2 e6=>?_⟩)
   ·rw[l5];show _+2+_<=_;omega
   refine⟨r,r2,_,_,rfl,rfl,s6 _ _ e5,e6,by rw[l5,l6,l6,hs];show _+1+_<=_;omega,_,rfl,au hr0 (s5.trans s6),?_⟩
   rw[aa,l16,l19,l24]
   rfl
 ·rintro σ H3 ⟨x3,rfl,s3,e3⟩
  rw[l6,hlen,l40] at e3
  exact⟨_,rfl,q r H3 s3 hr0 e3⟩
end
end K11
namespace K11
open PySem L2 Lm Lw PySem.Builtin.Int
def Tp (t:Addr)(u:Int)(H:Hp):Prop:=∃m:Int,H t=some (.lst [.int m])/\0<=m/\m<=u
theorem Tp.le {t:Addr}{u v:Int}{H:Hp}(h:Tp t u H)(k:u<=v):Tp t v H:=let ⟨m,a,b,d⟩:=h;⟨m,a,b,l70 d k⟩
theorem Tp.same {t:Addr}{u:Int}{H H':Hp}(h:Tp t u H)(s:Same H H'):Tp t u H':=let ⟨m,a,b⟩:=h;⟨m,s _ _ a,b⟩
theorem Tp.ne {t:Addr}{u:Int}{H:Hp}(h:Tp t u H):H t≠none:=by obtain⟨m,a,_⟩:=h;rw[a];exact λz=>nomatch z
structure Scr (K:PySem.W.Frag)(t:Addr)(ns:List Int)(a:Addr)(H:Hp):Prop where
 sq:∀H',KeepX t H H'->SqL K H' a (ns.map V.int)
 bits:∀n∈ns,intBits n<=1048576
theorem Scr.keep {K:PySem.W.Frag}{t a:Addr}{ns:List Int}{H H':Hp}(h:Scr K t ns a H)(k:KeepX t H H'):Scr K t ns a H':=⟨λH'' k'=>h.sq _ (k.trans k'),h.bits⟩
theorem ag {t:Addr}{H H':Hp}(s:Same H H'):KeepX t H H':=λ_ _ _ h=>s _ _ h
theorem bJ {A U:TS}{D:Ends}{σ:St}{H:Hp}(h:∀V:TS,(∀D σ H,U D σ H->V D σ H)->tSeq A V D σ H):tSeq A U D σ H:=h U λ_ _ _ x=>x
theorem gen7 {te:TE}{y0 y1 y2 y3 y4 y5 y6:Str}{A0 A1 A2 A3 A4 A5 A6 U:TS}{D:Ends}{σ:St}{H:Hp}(h:∀B0 B1 B2 B3 B4 B5 B6 V:TS,(∀D σ H,A0 D σ H->B0 D σ H)->(∀D σ H,A1 D σ H->B1 D σ H)->(∀D σ H,A2 D σ H->B2 D σ H)->(∀D σ H,A3 D σ H->B3 D σ H)->(∀D σ H,A4 D σ H->B4 D σ H)->(∀D σ H,A5 D σ H->B5 D σ H)->(∀D σ H,A6 D σ H->B6 D σ H)->(∀D σ H,U D σ H->V D σ H)->(tSeq (tIfS (bH (tOp rEq te (tC (.str y0)))) B0 a9) (tSeq (tIfS (bH (tOp rEq te (tC (.str y1)))) B1 a9) (tSeq (tIfS (bH (tOp rEq te (tC (.str y2)))) B2 a9) (tSeq (tIfS (bH (tOp rEq te (tC (.str y3)))) B3 a9) (tSeq (tIfS (bH (tOp rEq te (tC (.str y4)))) B4 a9) (tSeq (tIfS (bH (tOp rEq te (tC (.str y5)))) B5 a9) (tSeq (tIfS (bH (tOp rEq te (tC (.str y6)))) B6 a9) (V)))))))) D σ H):(tSeq (tIfS (bH (tOp rEq te (tC (.str y0)))) A0 a9) (tSeq (tIfS (bH (tOp rEq te (tC (.str y1)))) A1 a9) (tSeq (tIfS (bH (tOp rEq te (tC (.str y2)))) A2 a9) (tSeq (tIfS (bH (tOp rEq te (tC (.str y3)))) A3 a9) (tSeq (tIfS (bH (tOp rEq te (tC (.str y4)))) A4 a9) (tSeq (tIfS (bH (tOp rEq te (tC (.str y5)))) A5 a9) (tSeq (tIfS (bH (tOp rEq te (tC (.str y6)))) A6 a9) (U)))))))) D σ H:=h A0 A1 A2 A3 A4 A5 A6 U (λ_ _ _ x=>x) (λ_ _ _ x=>x) (λ_ _ _ x=>x) (λ_ _ _ x=>x) (λ_ _ _ x=>x) (λ_ _ _ x=>x) (λ_ _ _ x=>x) λ_ _ _ x=>x
structure TxD (mg:Str->Option Value):Prop where
 n_len:mg "len"=none
 n_range:mg "range"=none
 n_int:mg "int"=none
section
abbrev sDraw:Stmt:=top 61
theorem scDraw:FnScope ["_law_script","_law_tape","_law_many","_law_cell_here","_law_number"] p8 (ad sDraw):=mkS
def bG (K:PySem.W.Frag):Sp:=λvs H Q _=>∃(a t:Addr) (ns:List Int) (many u:Int),vs=[.ref a, .ref t, .int many]/\Scr K t ns a H/\Tp t u H/\u<=1000000000000/\0 < many/\∀i H',0<=i->i < many->KeepX t H H'->Tp t (u+1) H'->Q (.int i) H'
theorem ok_draw (F:Fun K "_law_draw" "_law_draw" sDraw f fd)(T:TxD mg):FnOk P w K mg base CX0 1 f fd p8 (bG K):=by
 have sc:=scDraw
 refine F.oks sc λcdv A outer s H vs Q E hr h=>?_
 obtain⟨a,t,ns,many,u,rfl,hsc,⟨m,et,m0,m1⟩,hu1,hmany,q⟩:=h
 have hu:(A.deeper (PyProof.Rows.envOfC "_law_draw" (ad sDraw) s.heap.objs.size f cdv)).units+64 < cLine:=by
  have:=hr.un
  omega
 refine ao (xbc (xasg (xop bp (xix aU (xv 1) xint (λ_ _=>rfl)) xint) (xgsub (xv 1) xint iL))
  (xbc (xset (i:=3) sc.nd rfl (Or.inl rfl) xint)
  (xbc (xif (aw (op_ne0 hu) (xv 0) (xlst xa0) (ai _)) (xb1 (xset (i:=3) sc.nd rfl (Or.inl rfl) (xix aU (xv 0) (xop f7 (xix aU (xv 1) xint (λ_ _=>rfl)) (xcB bQ T.n_len PySem.boot_len (xac (xv 0) xa0))) (λ_ _=>rfl)))) xb0)
  (xbc (xset (i:=4) sc.nd rfl (Or.inl rfl) (xop bp (xop bp (xv 3) (xop oJ xint (xix aU (xv 1) xint (λ_ _=>rfl)))) xint))
  (xb1 (xret (xop f7 (xop op_fdiv (xop f7 (xop oJ (xop f7 (xop op_mulB (xv 4) (xv 4)) xint) xint) xint) xint) (xv 2)))))))) ?_
 rw[show aS ["_law_script","_law_tape","_law_many","_law_cell_here","_law_number"] [V.ref a,V.ref t,V.int many]=[some (V.ref a),some (V.ref t),some (V.int many),none,none] from rfl]
 refine⟨_,rfl,t,_,0, .int m,rfl,rfl,SqL.of et,aC (j:=0) rfl,_,_,rfl,rfl,_,rfl,t,_,0,0,rfl,rfl,et,rfl,?_⟩
 have et1:upd H t (.lst [.int (m+1)]) t=some (.lst [.int (m+1)]):=aa
 have k1:KeepX t H (upd H t (.lst [.int (m+1)])):=keep_upd
 show tSeq _ _ _ _ (upd H t (.lst [.int (m+1)]))
 generalize upd H t (.lst [.int (m+1)])=H1 at et1 k1 ⊢
 refine c9 ?_
 dsimp only[sA,sB]
 refine bt (λσ' H'=>∃x:Int,σ'=[some (V.ref a),some (V.ref t),some (V.int many),some (.int x),none]/\intBits x<=1048576/\Same H1 H') (λN hN=>?_) ?_
 ·refine⟨_,rfl,big (show (0:Nat)<=1000000 by decide),λo ho=>?_⟩
  have s2:=ac ho (.lst [])
  have e2:upd H1 o (.lst []) o=some (.lst []):=aa
  generalize upd H1 o (.lst [])=H2 at s2 e2 ⊢
  have q2:SqL K H2 a (ns.map V.int):=hsc.sq H2 (k1.trans (ag s2))
  refine⟨a,o,_,rfl,rfl,q2,SqL.of e2,_,rfl,?_⟩
  dsimp only
  cases hns:ns with
  |nil=>exact iteF (hN _ _ ⟨0,rfl,by decide,s2⟩)
  |cons n0 nr=>
   rw[<- hns]
   have hne:(!(ns.map V.int).isEmpty)=true:=by rw[hns];rfl
   rw[if_pos rfl,hne]
   refine iteT ?_
   have hpos:(0:Int) < (ns.map V.int).length:=by rw[hns];simp
   have h1:=Int.emod_nonneg (m+1) (show ((ns.map V.int).length:Int)≠0 by omega)
   have h2:=Int.emod_lt_of_pos (m+1) hpos
   obtain⟨j,hj⟩:∃j:Nat,(m+1) % ((ns.map V.int).length:Int)=(j:Int):=⟨_,(l38 h1).symm⟩
   have hjl:j < ns.length:=by rw[l6] at h2 hj;omega
   refine⟨_,rfl,_,rfl,t,_,0, .int (m+1),rfl,rfl,SqL.of (s2 _ _ et1),aC (j:=0) rfl,_,rfl,a,_,rfl, .inl q2,_,_,rfl,rfl,hpos,a,_,_, .int ns[j],rfl,rfl,q2,?_,hN _ _ ⟨_,rfl,hsc.bits _ (l62 hjl),s2⟩⟩
   rw[hj]
   exact aC (by rw[List.getElem?_map,List.getElem?_eq_getElem hjl];rfl)
 rintro σ' H2 ⟨x,rfl,hx,s2⟩
 have et2:=s2 _ _ et1
 refine⟨_,rfl,_,rfl,t,_,0, .int (m+1),rfl,rfl,SqL.of et2,aC (j:=0) rfl,_,_,rfl,rfl, .inl ⟨by decide,by decide⟩,_,_,rfl,rfl,_,_,rfl,rfl,?_⟩
 dsimp only[av,sA,sB]
 have hn:intBits (x+7919 * (m+1)+13)<=1048580:=by
  have h2:=intBits_add_le (intBits_add_le hx (intBits_le_64 (k:=7919 * (m+1)) (by omega) (by omega))) (intBits_le_64 (k:=13) (by omega) (by omega))
  exact l10 h2 (by decide)
 refine⟨_,rfl,_,rfl,_,_,rfl,rfl,IntMulOk.of_le hn hn (by decide),_,_,rfl,rfl,show (0:Int) < 1000000007 by decide,_,_,rfl,rfl, .inr ⟨by decide,by decide⟩,_,_,rfl,rfl,show (0:Int) < 998244353 by decide,_,_,rfl,rfl,⟨by decide,by decide⟩,_,rfl,_,_,rfl,rfl,hmany,?_⟩
 exact q _ _ (Int.emod_nonneg _ (by omega)) (Int.emod_lt_of_pos _ hmany) (k1.trans (ag s2)) ⟨m+1,et2,by omega,by omega⟩
end
def lX:List Nat:=[32,33,34,35,36,38,39,40,41,42,43,44,45,46,47,48,49,50,51,52,53,54,55,56,57,58,59,60,61,62,63,64,65,66,67,68,69,70,71,72,73,74,75,76,77,78,79,80,81,82,83,84,85,86,87,88,89,90,91,92,93,94,95,96,97,98,99,100,101,102,103,104,105,106,107,108,109,110,111,112,113,114,115,116,117,118,119,120,121,122,123,124,125,126]
def sgFew:List Nat:=[97,98,32,42,96,91,93,92,124,45,43,61,62,126,58,94,46]
section
theorem ix_of {z:List Nat}{i:Int}{H:Hp}{Q:VK}(hl:z.length<=1000000)(h0:0<=i)(h1:i < z.length)(h:∀c∈z,Q (vS [c]) H):rIxS (vS z) (.int i) H Q:=by
 obtain⟨j,rfl⟩:∃j:Nat,i=(j:Int):=⟨i.toNat,(l38 h0).symm⟩
 have hj:j < z.length:=by omega
 exact⟨_,_,z[j],rfl,rfl,bigS hl,aC (by rw[ek];exact List.getElem?_eq_getElem hj),h _ (l62 hj)⟩
abbrev sText:Stmt:=top 62
theorem scText:FnScope ["_law_script","_law_tape","_law_size","_law_is_code","_law_some_here","_law_text_here","_law_k","_law_sign"] p21 (ad sText):=mkS
def gR (K:PySem.W.Frag):Sp:=λvs H Q _=>∃(a t:Addr) (ns:List Int) (size u:Int) (code:Bool),vs=[.ref a, .ref t, .int size, .bl code]/\Scr K t ns a H/\Tp t u H/\u<=900000000000/\0<=size/\size<=100/\∀l H',l.length=size.toNat->Asc l->KeepX t H H'->Tp t (u+3 * size) H'->Q (vS l) H'
theorem ok_text (F:Fun K "_law_text" "_law_text" sText f fd)(T:TxD mg)(D_l_draw:Def P w K mg base 1 "_law_draw" p8 (bG K)):FnOk P w K mg base CX0 2 f fd p21 (gR K):=by
 have sc:=scText
 refine F.oks sc λcdv A outer s H vs Q E hr h=>?_
 obtain⟨a,t,ns,size,u,code,rfl,hsc,htp,hu1,z0,z1,q⟩:=h
 refine ao (xbc (xset (i:=4) sc.nd rfl (Or.inl rfl) xstr)
  (xbc (xset (i:=4) sc.nd rfl (Or.inl rfl) (xop ae (xv 4) xstr))
  (xbc (xset (i:=5) sc.nd rfl (Or.inl rfl) xstr)
  (xbc (xfor PassesOwn.never rfl (xir1 rfl T.n_range (xac (xv 2) xa0)) (xgn (i:=6) sc.nd rfl (Or.inl rfl))
  (xbc (xset (i:=7) sc.nd rfl (Or.inl rfl) (xix gh (xv 4) (xcd D_l_draw hr (xac (xv 0) (xac (xv 1) (xac xint xa0)))) (λ_ _=>rfl)))
  (xbc (xif (aw aD (xcd D_l_draw hr (xac (xv 0) (xac (xv 1) (xac xint xa0)))) xint (ai _)) (xb1 (xset (i:=7) sc.nd rfl (Or.inl rfl) (xix gh xstr (xcd D_l_draw hr (xac (xv 0) (xac (xv 1) (xac xint xa0)))) (λ_ _=>rfl)))) xb0)
  (xbc (xif (xor (xand (aw aD (xv 7) xstr (ai _)) (fv (aw aD (xsl bq (xv 5) (xo1 (xun ej xint)) xo0) xstr (ai _)))).xt (xor1 (xand (aw aD (xv 7) xstr (ai _)) (fv (bA (xv 3)))).xt)).xt (xb1 (xset (i:=7) sc.nd rfl (Or.inl rfl) xstr)) xb0)
  (xb1 (xset (i:=5) sc.nd rfl (Or.inl rfl) (xop ae (xv 5) (xv 7))))))))
  (xb1 (xret (xv 5))))))) ?_
 have hs:sizeLine=16777216:=sizeLine_eq
 rw[show aS ["_law_script","_law_tape","_law_size","_law_is_code","_law_some_here","_law_text_here","_law_k","_law_sign"] [V.ref a,V.ref t,V.int size,V.bl code]=[some (V.ref a),some (V.ref t),some (V.int size),some (V.bl code),none,none,none,none] from rfl]
 obtain⟨sz,rfl⟩:∃sz:Nat,size=(sz:Int):=⟨size.toNat,(l38 z0).symm⟩
 refine c9 ?_
 dsimp only[sA,sB]
 refine⟨_,rfl,_,_,rfl,rfl,by rw[hs];decide,?_⟩
 dsimp only[av,sA,sB]
 rw[show Str.ofString " !\"#$&'()*+,-./0123456789:;<=>?@ABCDEFGHIJKLMNOPQRSTUVWXYZ[\\]^_`"++Str.ofString "abcdefghijklmnopqrstuvwxyz{|}~"=S lX by decide +kernel]
 refine c9 ?_
 dsimp only[sA,sB]
 refine⟨_,rfl,_,rfl,by omega,by omega,?_⟩
 rw[l34]
 refine cF (n:=sz) (λi σ H'=>∃l x6 x7,σ=[some (.ref a),some (.ref t),some (.int (sz:Nat)),some (.bl code),some (vS lX),some (vS l),x6,x7]/\l.length=i/\Asc l/\KeepX t H H'/\Tp t (u+3 * i) H') ⟨[],none,none,rfl,rfl,(λ_ z=>nomatch z),KeepX.refl,htp.le (by omega)⟩ ?_ ?_
 ·rintro i σ H3 hi ⟨l,x6,x7,rfl,hl,hasc,k3,tp3⟩
  have hall:∀c∈lX,c < 128:=by decide
  have hfew:∀c∈sgFew,c < 128:=by decide
  refine⟨_,rfl,_,rfl,_,rfl,a,t,ns,94,_,rfl,hsc.keep k3,tp3,by omega,by decide,λj H4 j0 j1 k4 tp4=>?_⟩
  refine ix_of (z:=lX) (by decide) j0 (by show j < 94;exact j1) λc hc=>?_
  have hc:=hall c hc
  dsimp only[av,sA,sB]
  refine bt (λσ' H'=>∃c:Nat,σ'=[some (.ref a),some (.ref t),some (.int (sz:Nat)),some (.bl code),some (vS lX),some (vS l),some (.int (0+(i:Int))),some (vS [c])]/\c < 128/\KeepX t H H'/\Tp t (u+3 * (i+1:Nat)) H') (λN hN=>?_) ?_
  ·refine⟨_,rfl,_,rfl,a,t,ns,2,_,rfl,hsc.keep (k3.trans k4),tp4,by omega,by decide,λd H5 d0 d1 k5 tp5=>⟨rfl,_,rfl,?_⟩⟩
   refine ite2 (λ_=>?_) λ_=>hN _ _ ⟨c,rfl,hc,(k3.trans k4).trans k5,tp5.le (by omega)⟩
   refine⟨_,rfl,_,rfl,a,t,ns,17,_,rfl,hsc.keep ((k3.trans k4).trans k5),tp5,by omega,by decide,λd H6 d0 d1 k6 tp6=>?_⟩
   refine ix_of (z:=sgFew) (by decide) d0 (by show d < 17;exact d1) λc hc=>?_
   exact hN _ _ ⟨c,rfl,hfew c hc,((k3.trans k4).trans k5).trans k6,tp6.le (by omega)⟩
  rintro σ' H4 ⟨c,rfl,hc,k4,tp4⟩
  refine bt (λσ' H'=>∃c:Nat,σ'=[some (.ref a),some (.ref t),some (.int (sz:Nat)),some (.bl code),some (vS lX),some (vS l),some (.int (0+(i:Int))),some (vS [c])]/\c < 128/\Same H4 H') (λN hN=>?_) ?_
  ·have hlast:∀H',Ev (tSl rSlS (tVar 5) (oR (tUn (rU λi => .int (-i)) (tC (.int 1)))) gg) [some (.ref a),some (.ref t),some (.int (sz:Nat)),some (.bl code),some (vS lX),some (vS l),some (.int (0+(i:Int))),some (vS [c])] H' (vS (cutL l (some (-1)) none)):=λH'=>iX (by omega) (ev_v rfl) (iW (lf ev_c rfl)) iV rfl
   refine s_if _ (t_or _ _ (iU _ _ (t_eq [c] [32] rfl (ev_v rfl)) λ_ H6 s6=>t_eq _ [32] rfl (hlast H6)) λ_ H6 s6=>iU _ _ (t_eq [c] [96] rfl (ev_v rfl)) λ_ H7 s7=>t_bv (ev_v rfl)) (λH6 s6 _=>?_) λH6 s6 _=>hN _ _ ⟨c,rfl,hc,s6⟩
   exact hN _ _ ⟨120,rfl,by decide,s6⟩
  rintro σ' H5 ⟨c,rfl,hc,s5⟩
  exact aH (ev_v (v:=vS l) rfl) (ev_v (v:=vS [c]) rfl) (by show _+1<=_;omega) _ ⟨l++[c],_,_,rfl,by rw[l5,hl];rfl,ay hasc (λx hx=>by rw[l20.mp hx];exact hc),k4.trans (ag s5),tp4.same s5⟩
 ·rintro σ H3 ⟨l,x6,x7,rfl,hl,hasc,k3,tp3⟩
  exact⟨_,rfl,q l H3 (by rw[hl,l34]) hasc k3 tp3⟩
end
theorem NewQ.keep {H H' H4:Hp}{W:List Addr}{R:Hp->Prop}{t:Addr}(h:NewQ H W H' R)(ht:H t≠none)(k:KeepX t H' H4):NewQ H W H4 R:=
 let ⟨G,a,b,d,e⟩:=h;⟨G,λx o z=>k x o (λy=>by rw[y,d t ht] at z;cases z) (a x o z),b,d,e⟩
theorem cx {H H1 H2:Hp}{t:Addr}(ht:H t≠none)(k:KeepX t H1 H2):Same (dif H H1) (dif H H2):=λb o e=>by
 obtain⟨n,e⟩:=ci e
 rw[ar n]
 exact k b o (λz=>ht (z▸n)) e
theorem bu {H H1 H2:Hp}{t:Addr}(ht:H1 t≠none)(k:KeepX t H H1):Same (dif H1 H2) (dif H H2):=λb o e=>by
 obtain⟨n,e⟩:=ci e
 have hb:b≠t:=λz=>ht (z▸n)
 rw[ar (aB k hb n)]
 exact e
theorem qp {v:V}{d:PyData}:Mo λG=>Dn G v d:=λ_ _ s h=>h.same s
theorem cf {vs:List V}{ds:List PyData}:Mo λG=>DnAll G vs ds:=λ_ _ s h=>h.same s
theorem fY {G:Hp}{vs:List V}{ds:List PyData}{v:V}{d:PyData}(h:DnAll G vs ds)(k:Dn G v d):DnAll G (vs++[v]) (ds++[d]):=h.app (.cons k .nil)
theorem lY {α:Type}{n:Nat}{k:Nat}{fr:List Nat}{g:TG}{tt:TT}{te:TE}{σ:St}{H0:Hp}{Q:Addr->Hp->Prop}(t:Addr)(u c:Int)(f:α->PyData)(ok:α->Prop)(hl:n<=1000)(h0:Tp t u H0)
  (ht:∀i:Nat,i < n->∀H',KeepX t H0 H'->Tp t (u+c * i) H'->∀(C:V->Hp->Prop)(N:Hp->Prop),(∀v x H4,KeepX t H' H4->Tp t (u+c * i+c) H4->ok x->Dn (dif H' H4) v (f x)->C v H4) →
   g (.int (0+(i:Nat))) (nfS k fr σ) H' λσ2 H2=>nfLe k fr σ σ2/\tt σ2 H2 λb H3=>if b=true then te σ2 H3 C else N H3)
  (hq:∀D H' ys (xs:List α),H0 D=none->KeepX t H0 H'->Tp t (u+c * n) H'->H' D=some (.lst ys)->xs.length=n->(∀x∈xs,ok x)->NewQ H0 [D] H' (λG=>DnAll G ys (xs.map f))->Q D H'):rLC k fr g tt te σ (Itr 0 n) H0 Q:=by
 intro D hD
 have htn:=h0.ne
 have hDt:D≠t:=λe=>by rw[e] at hD;exact htn hD
 refine ⟨λi m acc H=>m=n - i/\i<=n/\H D=some (.lst acc)/\KeepX t H0 H/\Tp t (u+c * i) H/\∃xs:List α,xs.length=i/\(∀x∈xs,ok x)/\NewQ H0 [D] H (λG=>DnAll G acc (xs.map f)),
  ⟨n,by simp,l14 _,aa,ag (ac hD _),by have:=h0.same (ac hD (.lst []));simpa using this,[],rfl,(λ_ z=>nomatch z),NewQ.triv .nil⟩,?_⟩
 rintro i m acc H ⟨rfl,hi,hDa,sm,tp,xs,hxl,hxo,hn⟩
 refine⟨hDa,?_⟩
 have hal:acc.length=i:=by
  obtain⟨G,_,_,_,e⟩:=hn
  rw[e.len,l6,hxl]
 by_cases hlt:i < n
 ·refine .inr ⟨hlt,?_⟩
  rintro x H' ⟨rfl,rfl⟩
  refine ht i hlt _ sm tp _ _ λv x H4 s4 tp4 ox dv=>?_
  refine⟨s4 _ _ hDt hDa,by rw[sizeLine_eq];omega,n - (i+1),by omega,rfl,hlt,aa,?_,?_,xs++[x],by rw[l5,hxl];rfl,λy hy=>?_,?_⟩
  ·intro b o nb hb
   rw[af (λz=>by rw[z,hD] at hb;cases hb)]
   exact(sm.trans s4) b o nb hb
  ·obtain⟨m',e,m0,m1⟩:=tp4
   refine⟨m',(af (Ne.symm hDt)).trans e,m0,l70 m1 ?_⟩
   have:((i+1:Nat):Int)=(i:Nat)+1:=by omega
   rw[this,Int.mul_add,Int.mul_one]
   omega
  ·rcases l18.mp hy with z |z
   ·exact hxo y z
   ·rw[l20.mp z];exact ox
  ·rw[l16]
   refine NewQ.upd ?_ l13
   refine NewQ.join (NewQ.keep hn htn s4) ?_ cf qp λG h1 h2=>fY h1 h2
   refine⟨dif H' H4,dif_same,λb hb=>bd (by rw[l20.mp hb,hDa];exact λz=>nomatch z),λb hb=>?_,dv⟩
   by_cases hbt:b=t
   ·rw[hbt];exact bd tp.ne
   ·refine bd λz=>?_
    cases e:H0 b with
    |none=>exact hb e
    |some o=>rw[sm b o hbt e] at z;cases z
 ·have e:i=n:=by omega
  subst e
  exact .inl ⟨l7 _,hq D H acc xs hD sm tp hDa hxl hxo hn⟩
section
abbrev qq:Stmt:=top 63
theorem scNames:FnScope ["_law_script","_law_tape","_law_some_here","_law_first","_law_size","_law_frame","_law_at","_law_more"] p12 (ad qq):=mkS
def nmAll:List Nat:=[97,98,99,100,101,102,103,104,105,106,107,108,109,110,111,112,113,114,115,116,117,118,119,120,121,122,48,49,50,51,52,53,54,55,56,57]
def NmOk (l:List Nat):Prop:=Asc l/\l.length<=12
def lZ (K:PySem.W.Frag):Sp:=λvs H Q _=>∃(a t:Addr) (ns:List Int) (u:Int),vs=[.ref a, .ref t]/\Scr K t ns a H/\Tp t u H/\u<=900000000000/\∀r (ls:List (List Nat)) H',KeepX t H H'->H r=none->H' r=some (.lst (ls.map vS))->ls.length=5->(∀l∈ls,NmOk l)->Tp t (u+5) H'->Q (.ref r) H'
theorem vs_of {Pr:List Nat->Prop}{ys:List V}(h:∀y∈ys,∃l,y=vS l/\Pr l):∃ls:List (List Nat),ys=ls.map vS/\∀l∈ls,Pr l:=by
 induction ys with
 |nil=>exact⟨[],rfl,λ_ z=>nomatch z⟩
 |cons y ys ih=>
  obtain⟨l,rfl,hl⟩:=h y l13
  obtain⟨ls,rfl,hls⟩:=ih λz hz=>h z (l15 _ hz)
  exact ⟨l::ls,rfl,λx hx=>by
   rcases l9.mp hx with rfl |z
   ·exact hl
   ·exact hls x z⟩
theorem ok_names (F:Fun K "_law_names" "_law_names" qq f fd)(T:TxD mg)(D_l_draw:Def P w K mg base 1 "_law_draw" p8 (bG K)):FnOk P w K mg base CX0 2 f fd p12 (lZ K):=by
 have sc:=scNames
 refine F.oks sc λcdv A outer s H vs Q E hr h=>?_
 obtain⟨a,t,ns,u,rfl,hsc,htp,hu1,q⟩:=h
 refine ao (xbc (xset (i:=2) sc.nd rfl (Or.inr rfl) xstr)
  (xbc (xset (i:=3) sc.nd rfl (Or.inr rfl) (xcd D_l_draw hr (xac (xv 0) (xac (xv 1) (xac xint xa0)))))
  (xbc (xset (i:=4) sc.nd rfl (Or.inl rfl) (xcd D_l_draw hr (xac (xv 0) (xac (xv 1) (xac xint xa0)))))
  (xbc (xset (i:=5) sc.nd rfl (Or.inr rfl) (xm PySem.F.plainAttrs_str PySem.F.slot_str_join PySem.F.type_str_join dX xstr (xac (xlc (cl:=[("_law_some_here",s.heap.objs.size+1),("_law_first",s.heap.objs.size+2)]) (own:=["_law_k"]) (fr:=[2,3]) (N':=["_law_k","_law_some_here","_law_first"]) rfl (bw (xs:=["_law_some_here","_law_first"]) ⟨rfl,⟨rfl,trivial⟩⟩ ⟨rfl,rfl, .inl rfl, .inl rfl,⟨rfl,rfl, .inl rfl, .inl rfl,trivial⟩⟩ (by decide +kernel)) (by decide +kernel) (by decide +kernel) (by with_unfolding_all rfl)
  (xir1 rfl T.n_range (xac (xv 4) xa0))
  (λ_ _ _ _=>xgn (i:=0) (show (["_law_k","_law_some_here","_law_first"]:List Str).Nodup by decide +kernel) rfl (Or.inl rfl)) (λ_ _ _ _=>xq0) (λ_ _ _ _=>(xix gh (xv 1) (xop f7 (xop bp (xv 2) (xop oJ xint (xv 0))) xint) (λ_ _=>rfl)))) xa0)))
  (xbc (xif (xand (aw hV (xv 4) xint (ai _)) (fv (aw aD (xcd D_l_draw hr (xac (xv 0) (xac (xv 1) (xac xint xa0)))) xint (ai _)))).xt (xb1 (xret (xlc (cl:=[("_law_frame",s.heap.objs.size+3)]) (own:=["_law_k"]) (fr:=[5]) (N':=["_law_k","_law_frame"]) rfl (bw (xs:=["_law_frame"]) ⟨rfl,trivial⟩ ⟨rfl,rfl, .inl rfl, .inl rfl,trivial⟩ (by decide +kernel)) (by decide +kernel) (by decide +kernel) (by with_unfolding_all rfl)
  (xir1 rfl T.n_range (xac xint xa0))
  (λ_ _ _ _=>xgn (i:=0) (show (["_law_k","_law_frame"]:List Str).Nodup by decide +kernel) rfl (Or.inl rfl)) (λ_ _ _ _=>xq0) (λ_ _ _ _=>(xsl bq (xv 1) xo0 (xo1 (xop bp (xv 0) xint))))))) xb0)
  (xbc (xset (i:=6) sc.nd rfl (Or.inr rfl) (xcd D_l_draw hr (xac (xv 0) (xac (xv 1) (xac (xop bp (xv 4) xint) xa0)))))
  (xbc (xset (i:=7) sc.nd rfl (Or.inr rfl) (xcd D_l_draw hr (xac (xv 0) (xac (xv 1) (xac xint xa0)))))
  (xb1 (xret (xlc (cl:=[("_law_some_here",s.heap.objs.size+1),("_law_more",s.heap.objs.size+5),("_law_frame",s.heap.objs.size+3),("_law_at",s.heap.objs.size+4)]) (own:=["_law_k"]) (fr:=[5,2,6,7]) (N':=["_law_k","_law_frame","_law_some_here","_law_at","_law_more"]) rfl (bw (xs:=["_law_frame","_law_some_here","_law_at","_law_more"]) ⟨rfl,⟨rfl,⟨rfl,⟨rfl,trivial⟩⟩⟩⟩ ⟨rfl,rfl, .inl rfl, .inl rfl,⟨rfl,rfl, .inl rfl, .inl rfl,⟨rfl,rfl, .inl rfl, .inl rfl,⟨rfl,rfl, .inl rfl, .inl rfl,trivial⟩⟩⟩⟩ (by decide +kernel)) (by decide +kernel) (by decide +kernel) (by with_unfolding_all rfl)
  (xir1 rfl T.n_range (xac xint xa0))
  (λ_ _ _ _=>xgn (i:=0) (show (["_law_k","_law_frame","_law_some_here","_law_at","_law_more"]:List Str).Nodup by decide +kernel) rfl (Or.inl rfl)) (λ_ _ _ _=>xq0) (λ_ _ _ _=>(xop ae (xop ae (xsl bq (xv 1) xo0 (xo1 (xv 3))) (xix gh (xv 2) (xop bp (xv 4) (xv 0)) (λ_ _=>rfl))) (xsl bq (xv 1) (xo1 (xv 3)) xo0))))))))))))) ?_
 have hs:sizeLine=16777216:=sizeLine_eq
 have hall:∀c∈nmAll,c < 128:=by decide
 rw[show aS ["_law_script","_law_tape","_law_some_here","_law_first","_law_size","_law_frame","_law_at","_law_more"] [V.ref a,V.ref t]=[some (V.ref a),some (V.ref t),none,none,none,none,none,none] from rfl]
 refine c9 ?_
 dsimp only[sA,sB]
 refine⟨_,rfl,_,rfl,a,t,ns,36,u,rfl,hsc,htp,by omega,by decide,λfi H1 f0 f1 k1 tp1=>?_⟩
 dsimp only[av,sA,sB]
 refine⟨_,rfl,_,rfl,a,t,ns,12,_,rfl,hsc.keep k1,tp1,by omega,by decide,λsize H2 z0 z1 k2 tp2=>?_⟩
 dsimp only[av,sA,sB]
 obtain⟨sz,rfl⟩:∃sz:Nat,size=(sz:Int):=⟨size.toNat,(l38 z0).symm⟩
 have k12:=k1.trans k2
 refine⟨rfl,_,rfl,_,rfl,by omega,by omega,?_⟩
 rw[l34]
 refine gC 0 (λv=>∃l,v=vS l/\Asc l/\l.length=1) (by rw[hs];omega) ?_ ?_
 ·intro i hi H3 s3 C N hC
  refine⟨(nfLe.refl _ _ _).set (by decide) _,iteT (B:=N H3) ⟨_,rfl,_,rfl,_,rfl,_,_,rfl,rfl, .inl ⟨by decide,by decide⟩,_,_,rfl,rfl,_,_,rfl,rfl,show (0:Int) < 36 by decide,?_⟩⟩
  exact ix_of (z:=nmAll) (by decide) (Int.emod_nonneg _ (by decide)) (Int.emod_lt_of_pos _ (by decide)) λc hc=>hC _ H3 (Same.refl _) ⟨[c],rfl,(λx hx=>by rw[l20.mp hx];exact hall c hc),rfl⟩
 intro D H3 ys hD s3 e3 hyl hys
 obtain⟨ls,rfl,hls⟩:=vs_of hys
 rw[l6] at hyl
 have hfl:∀ls:List (List Nat),(∀l∈ls,Asc l/\l.length=1)->ls.flatten.length=ls.length/\Asc ls.flatten:=λls h=>by
  induction ls with
  |nil=>exact⟨rfl,λ_ z=>nomatch z⟩
  |cons l ls ih=>
   obtain⟨i1,i2⟩:=ih λx hx=>h x (l15 _ hx)
   obtain⟨h1,h2⟩:=h l l13
   rw[l50]
   exact⟨by rw[l5,l8];omega,ay h1 i2⟩
 obtain⟨fl1,fl2⟩:=hfl ls hls
 refine⟨S [],D,ls.map S,rfl,rfl,SqL.of (e3.trans (by (conv=>rhs;rw[l28]);rfl)),eT _ (by omega),?_⟩
 rw[dZ,cI]
 generalize ls.flatten=fm at fl1 fl2 ⊢
 rw[hyl] at fl1
 clear hls e3 hys hfl
 dsimp only[av,sA,sB]
 have k3:=k12.trans (ag s3)
 have tp3:=tp2.same s3
 have fin:∀{r:Addr} {H4 H5:Hp} {ys:List V},KeepX t H H4->Tp t (u+5) H4->H4 r=none->Same H4 H5->H5 r=some (.lst ys)->ys.length=5->(∀y∈ys,∃l,y=vS l/\NmOk l)->Q (.ref r) H5:=λ{r H4 H5 ys} k4 tp4 hr4 s5 e5 hl5 h5=>by
  obtain⟨ls,rfl,hls⟩:=vs_of h5
  rw[l6] at hl5
  refine q r ls H5 (k4.trans (ag s5)) (aB k4 (λz=>?_) hr4) e5 hl5 hls (tp4.same s5)
  rw[z] at hr4
  exact tp4.ne hr4
 have hcut:∀lo hi,Asc (cutL fm lo hi)/\(cutL fm lo hi).length<=fm.length:=λlo hi=>by
  unfold cutL
  refine⟨λx hx=>fl2 x (List.mem_of_mem_drop (List.mem_of_mem_take hx)),?_⟩
  rw[l33,l25]
  omega
 refine bt (λσ' H'=>σ'=[some (V.ref a),some (V.ref t),some (vS nmAll),some (V.int fi),some (V.int sz),some (vS fm),none,none]/\KeepX t H H'/\Tp t (u+3) H') (λN hN=>?_) ?_
 ·refine⟨_,rfl,_,_,rfl,rfl,_,rfl,?_⟩
  refine ite2 (λc=>?_) (λ_=>iteF (hN _ _ ⟨rfl,k3,tp3.le (by omega)⟩))
  have c:=of_decide_eq_true c
  refine⟨_,rfl,_,rfl,a,t,ns,2,_,rfl,hsc.keep k3,tp3,by omega,by decide,λd H4 d0 d1 k4 tp4=>⟨rfl,_,rfl,?_⟩⟩
  have k34:=k3.trans k4
  refine ite2 (λ_=>?_) (λ_=>hN _ _ ⟨rfl,k34,tp4.le (by omega)⟩)
  refine⟨5,rfl,by decide,by decide,?_⟩
  refine gC 0 (λv=>∃l,v=vS l/\NmOk l) (by rw[hs];decide) ?_ λD2 H5 ys hD2 s5 e5 hyl5 hys5=>fin k34 (tp4.le (by omega)) hD2 s5 e5 hyl5 hys5
  intro i hi H5 s5 C N' hC
  obtain⟨c1,c2⟩:=hcut none (some (0+(i:Int)+1))
  refine⟨(nfLe.refl _ _ _).set (by decide) _,iteT (B:=N' H5) ?_⟩
  exact iX (l:=fm) (by omega) (ev_v rfl) iV (iW (λR r=>⟨_,rfl,_,_,rfl,rfl,r⟩)) rfl _ (hC _ H5 (Same.refl _) ⟨_,rfl,c1,by omega⟩)
 rintro σ' H4 ⟨rfl,k4,tp4⟩
 refine⟨_,rfl,_,rfl,_,rfl,_,_,rfl,rfl,a,t,ns,(sz:Int)+1,_,rfl,hsc.keep k4,tp4,by omega,by omega,λat0 H5 a0 a1 k5 tp5=>?_⟩
 dsimp only[av,sA,sB]
 refine⟨_,rfl,_,rfl,a,t,ns,31,_,rfl,hsc.keep (k4.trans k5),tp5,by omega,by decide,λmo H6 m0 m1 k6 tp6=>?_⟩
 dsimp only[av,sA,sB]
 refine⟨5,rfl,by decide,by decide,?_⟩
 refine gC 0 (λv=>∃l,v=vS l/\NmOk l) (by rw[hs];decide) ?_ λD2 H7 ys hD2 s7 e7 hyl7 hys7=>fin ((k4.trans k5).trans k6) (tp6.le (by omega)) hD2 s7 e7 hyl7 hys7
 intro i hi H7 s7 C N' hC
 obtain⟨c1,c2⟩:=hcut none (some at0)
 obtain⟨c3,c4⟩:=hcut (some at0) none
 have c5:(cutL fm none (some at0)).length+(cutL fm (some at0) none).length<=fm.length:=by
  obtain⟨j,rfl⟩:∃j:Nat,at0=(j:Int):=⟨at0.toNat,(l38 a0).symm⟩
  have hc:bD fm.length 0 (some (j:Int))=j:=by show (max 0 (min (if (j:Int) < 0 then (j:Int)+fm.length else j) fm.length)).toNat=j;rw[if_neg (by omega)];omega
  have hc2:bD fm.length fm.length (some (j:Int))=j:=hc
  unfold cutL
  rw[hc,hc2]
  show ((fm.drop 0).take (j - 0)).length+((fm.drop j).take (fm.length - j)).length<=_
  rw[l33,l33,l25,l25]
  omega
 refine⟨(nfLe.refl _ _ _).set (by decide) _,iteT (B:=N' H7) ?_⟩
 refine iX (l:=fm) (by omega) (ev_v rfl) iV (iW (ev_v rfl)) rfl _ ?_
 refine⟨_,rfl,_,rfl,_,rfl,_,_,rfl,rfl,ix_of (z:=nmAll) (by decide) (by omega) (by show _ < (36:Int);omega) λch hch=>⟨_,_,rfl,rfl,by rw[am,am,hs];show _+1<=_;omega,?_⟩⟩
 rw[bb]
 refine iX (l:=fm) (by omega) (ev_v rfl) (iW (ev_v rfl)) iV rfl _ ⟨_,_,rfl,rfl,by rw[am,am,hs,l5];show _+1+_<=_;omega,?_⟩
 rw[bb]
 refine hC _ H7 (Same.refl _) ⟨_,rfl,ay (ay c1 λx hx=>by rw[l20.mp hx];exact hall ch hch) c3,?_⟩
 rw[l5,l5]
 show _+1+_<=12
 omega
end
structure Nms (t nm:Addr)(ls:List (List Nat))(H:Hp):Prop where
 at_:H nm=some (.lst (ls.map vS))
 ne:nm≠t
 len:ls.length=5
 ok:∀l∈ls,NmOk l
theorem Nms.keep {t nm:Addr}{ls:List (List Nat)}{H H':Hp}(h:Nms t nm ls H)(k:KeepX t H H'):Nms t nm ls H':=⟨k _ _ h.ne h.at_,h.ne,h.len,h.ok⟩
theorem Nms.ix {K:PySem.W.Frag}{t nm:Addr}{ls:List (List Nat)}{H:Hp}{i:Int}{Q:VK}(h:Nms t nm ls H)(h0:0<=i)(h1:i < 5)(k:∀l,NmOk l->Q (vS l) H):rIxL K (.ref nm) (.int i) H Q:=by
 obtain⟨j,rfl⟩:∃j:Nat,i=(j:Int):=⟨i.toNat,(l38 h0).symm⟩
 have hj:j < ls.length:=by have:=h.len;omega
 exact⟨nm,_,_,vS ls[j],rfl,rfl,SqL.of h.at_,aC (by rw[List.getElem?_map,List.getElem?_eq_getElem hj];rfl),k _ (h.ok _ (l62 hj))⟩
def S1 (p:P1):Prop:=Ok1 p/\sz1 p<=50
def SP (inner:Bool)(p:PC):Prop:=(inner=true->∃q,p = .one q/\sz1 q<=50)/\OkC p/\szC p<=160
theorem SP.one {inner:Bool}{q:P1}(h:S1 q):SP inner (.one q):=⟨λ_=>⟨q,rfl,h.2⟩,h.1,l10 h.2 (by decide)⟩
structure Drw (K:PySem.W.Frag)(a t nm:Addr)(ns:List Int)(ls:List (List Nat))(u:Int)(H:Hp):Prop where
 sc:Scr K t ns a H
 tp:Tp t u H
 nms:Nms t nm ls H
 le:u<=800000000000
section
theorem Drw.go {K:PySem.W.Frag}{a t nm:Addr}{ns:List Int}{ls:List (List Nat)}{u u':Int}{H H':Hp}(h:Drw K a t nm ns ls u H)(k:KeepX t H H')(tp:Tp t u' H')(hu:u'<=800000000000):Drw K a t nm ns ls u' H':=⟨h.sc.keep k,tp,h.nms.keep k,hu⟩
def cst (inner:Bool):Int:=if inner then 40 else 170
theorem cst_le (inner:Bool):40<=cst inner/\cst inner<=170:=by cases inner <;> decide
def bP (inner:Bool):Int:=if inner then 760000000000 else 740000000000
def bS (inner:Bool):Int:=if inner then 750000000000 else 730000000000
theorem bP_le (inner:Bool):bP inner<=760000000000/\bS inner+10000000000<=bP inner:=by cases inner <;> decide
def mX (K:PySem.W.Frag)(inner:Bool):Sp:=λvs H Q _=>∃(a t nm:Addr) (ns:List Int) (ls:List (List Nat)) (u:Int) (bf:Str),vs=[.ref a, .ref t, .ref nm, .str bf, .bl inner]/\Drw K a t nm ns ls u H/\u<=bP inner/\∀v p H',KeepX t H H'->Tp t (u+cst inner) H'->SP inner p->Dn (dif H H') v (dP p)->Q v H'
def kz (K:PySem.W.Frag)(inner:Bool):Sp:=λvs H Q _=>∃(a t nm:Addr) (ns:List Int) (ls:List (List Nat)) (u:Int) (many:Nat),vs=[.ref a, .ref t, .ref nm, .int many, .bl inner]/\Drw K a t nm ns ls u H/\u<=bS inner/\many<=4/\∀r xs (ps:List PC) H',KeepX t H H'->Tp t (u+cst inner * many) H'->H r=none->H' r=some (.lst xs)->ps.length=many->(∀p∈ps,SP inner p)->NewQ H [r] H' (λG=>DnAll G xs (ps.map dP))->Q (.ref r) H'
abbrev sPart:Stmt:=top 64
theorem scPart:FnScope ["_law_script","_law_tape","_law_names_here","_law_before","_law_is_inner","_law_kind","_law_text_here","_law_words"] p35 (ad sPart):=mkS
theorem qr {m:Nat}{inner:Bool}{spI:Sp}(F:Fun K "_law_part" "_law_part" sPart f fd)(T:TxD mg)(D_l_draw:Def P w K mg base 1 "_law_draw" p8 (bG K))(D_l_text:Def P w K mg base 2 "_law_text" p21 (gR K))
  (D_l_some:Def P w K mg base m "_law_some" p18 spI)(hI:inner=false->∀vs H Q E,kz K true vs H Q E->spI vs H Q E):FnOk P w K mg base CX0 (m+3) f fd p35 (mX K inner):=by
 have sc:=scPart
 refine F.oks sc λcdv A outer s H vs Q E hr h=>?_
 obtain⟨a,t,nm,ns,ls,u,bf,rfl,dw,hu1,q⟩:=h
 obtain⟨bl,_⟩:=bP_le inner
 refine ao (xbc (xset (i:=5) sc.nd rfl (Or.inl rfl) (xcd D_l_draw hr (xac (xv 0) (xac (xv 1) (xac xint xa0)))))
  (xbc (xif (xand (aw op_lt (xv 5) xint (ai _)) (fv (aw jx (xv 3) xstr (ai _)))).xt (xbc (xset (i:=6) sc.nd rfl (Or.inl rfl) (xcd D_l_text hr (xac (xv 0) (xac (xv 1) (xac (xop bp xint (xcd D_l_draw hr (xac (xv 0) (xac (xv 1) (xac xint xa0))))) (xac xbl xa0))))))
  (xbc (xif (aw aD (xcd D_l_draw hr (xac (xv 0) (xac (xv 1) (xac xint xa0)))) xint (ai _)) (xb1 (xset (i:=6) sc.nd rfl (Or.inl rfl) (xop ae xstr (xv 6)))) xb0)
  (xb1 (xret (xtup (xac xstr (xac (xv 6) xa0))))))) xb0)
  (xbc (xif (aw aD (xv 5) xint (ai _)) (xb1 (xret (xtup (xac xstr (xac (xcd D_l_text hr (xac (xv 0) (xac (xv 1) (xac (xop bp xint (xcd D_l_draw hr (xac (xv 0) (xac (xv 1) (xac xint xa0))))) (xac xbl xa0))))) xa0))))) xb0)
  (xbc (xif (xand (aw aD (xv 5) xint (ai _)) (fv (hY (bA (xv 4))))).xt (xb1 (xret (xtup (xac xstr (xac (xcd D_l_some hr (xac (xv 0) (xac (xv 1) (xac (xv 2) (xac (xop bp xint (xcd D_l_draw hr (xac (xv 0) (xac (xv 1) (xac xint xa0))))) (xac xbl xa0)))))) xa0))))) xb0)
  (xbc (xif (xor (aw aD (xv 5) xint (ai _)) (xor1 (aw aD (xv 5) xint (ai _)))).xt (xbc (xset (i:=7) sc.nd rfl (Or.inl rfl) (xcd D_l_text hr (xac (xv 0) (xac (xv 1) (xac (xop bp xint (xcd D_l_draw hr (xac (xv 0) (xac (xv 1) (xac xint xa0))))) (xac xbl xa0))))))
  (xb1 (xret (xtup (xac xstr (xac (xix aU (xlst (xac (xv 7) (xac (xop ae xstr (xv 7)) xa0))) (xcd D_l_draw hr (xac (xv 0) (xac (xv 1) (xac xint xa0)))) (λ_ _=>rfl)) (xac (xix aU (xv 2) (xcd D_l_draw hr (xac (xv 0) (xac (xv 1) (xac xint xa0)))) (λ_ _=>rfl)) xa0))))))) xb0)
  (xb1 (xret (xtup (xac xstr (xac (xix aU (xv 2) (xcd D_l_draw hr (xac (xv 0) (xac (xv 1) (xac xint xa0)))) (λ_ _=>rfl)) xa0)))))))))) ?_
 have hs:sizeLine=16777216:=sizeLine_eq
 rw[show aS ["_law_script","_law_tape","_law_names_here","_law_before","_law_is_inner","_law_kind","_law_text_here","_law_words"] [V.ref a,V.ref t,V.ref nm,V.str bf,V.bl inner]=[some (V.ref a),some (V.ref t),some (V.ref nm),some (V.str bf),some (V.bl inner),none,none,none] from rfl]
 refine bJ λU0 eU=>?_
 refine⟨_,rfl,_,rfl,a,t,ns,8,u,rfl,dw.sc,dw.tp,by omega,by decide,λkd H1 kd0 kd1 k1 tp1=>?_⟩
 dsimp only[av,sA,sB]
 refine eU _ _ _ ?_
 have dw1:=dw.go k1 tp1 (by omega)
 obtain⟨cl,cl2⟩:=cst_le inner
 have fin2:∀{k:Str} {v:V} {d:PyData} {p:PC} {H2:Hp},(PyData.strOk k&&decide (k.length<=100000))=true->KeepX t H H2->Tp t (u+cst inner) H2->Dn (dif H H2) v d->dP p = .tuple [.str k,d]->SP inner p->∀t0,H2 t0=none->Q (.ref t0) (upd H2 t0 (.tup [.str k,v])):=λ{k v d p H2} hk k2 tp2 dv e hp t0 ht0=>by
  have sn:=ac ht0 (.tup [.str k,v])
  refine q _ p _ (k2.trans (ag sn)) (tp2.same sn) hp ?_
  rw[e]
  have hne:t0≠t:=λz=>by rw[z] at ht0;exact tp2.ne ht0
  exact .tup (by rw[ar (aB k2 hne ht0),aa]) (.cons (dn_k hk) (.cons (dv.same (bm (Same.refl _) sn)) .nil))
 have dS:∀{G:Hp} {l:List Nat},Asc l->l.length<=30->Dn G (vS l) (.str (S l)):=λh1 h2=>(c8 h1 (by omega)).dn
 refine s_if _ (iU _ _ (λR k=>⟨_,rfl,_,_,rfl,rfl,_,rfl,k _ (Same.refl _)⟩) λ_ H2 s2 R k=>⟨_,rfl,rfl,_,rfl,k _ (Same.refl _)⟩) (λH2 s2 _=>?_) λH2 s2 _=>?_
 ·have k2:=k1.trans (ag s2)
  have tp2:=tp1.same s2
  refine⟨_,rfl,_,rfl,_,rfl,_,rfl,a,t,ns,6,_,rfl,dw.sc.keep k2,tp2,by omega,by decide,λd H3 d0 d1 k3 tp3=>⟨_,_,rfl,rfl,a,t,ns,1+d,_,false,rfl,dw.sc.keep (k2.trans k3),tp3,by omega,by omega,by omega,λl H4 hl ha k4 tp4=>?_⟩⟩
  dsimp only[av,sA,sB]
  have k24:=(k2.trans k3).trans k4
  have hl7:1<=l.length/\l.length<=6:=by omega
  refine bt (λσ' H'=>∃l:List Nat,σ'=[some (V.ref a),some (V.ref t),some (V.ref nm),some (V.str bf),some (V.bl inner),some (V.int kd),some (vS l),none]/\Asc l/\1<=l.length/\l.length<=7/\KeepX t H H'/\Tp t (u+cst inner) H') (λN hN=>?_) ?_
  ·refine⟨_,rfl,_,rfl,a,t,ns,3,_,rfl,dw.sc.keep k24,tp4,by omega,by decide,λe H5 e0 e1 k5 tp5=>⟨rfl,_,rfl,?_⟩⟩
   refine ite2 (λ_=>?_) (λ_=>hN _ _ ⟨l,rfl,ha,hl7.1,by omega,k24.trans k5,tp5.le (by omega)⟩)
   exact aH (aN (b:=[58]) rfl) (ev_v (v:=vS l) rfl) (by show 1+_<=_;omega) _ (hN _ _ ⟨[58]++l,rfl,ay (aI _ rfl) ha,by rw[l5];show 1<=1+_;omega,by rw[l5];show 1+_<=_;omega,k24.trans k5,tp5.le (by omega)⟩)
  rintro σ' H5 ⟨l,rfl,ha,hl1,hl2,k5,tp5⟩
  refine⟨_,rfl,big (show (2:Nat)<=1000000 by decide),λt0 ht0=>fin2 (p := .one (.plain (S l))) (by decide +kernel) k5 tp5 (dS ha (by omega)) rfl (.one ⟨⟨ha,λz=>?_⟩,?_⟩) t0 ht0⟩
  ·have:l=[]:=z
   rw[this] at hl1;cases hl1
  ·show l.length<=50;omega
 have k2:=k1.trans (ag s2)
 have tp2:=tp1.same s2
 clear s2
 dsimp only[a9]
 refine s_if _ (λR k=>⟨_,rfl,rfl,_,rfl,k _ (Same.refl _)⟩) (λH3 s3 _=>?_) λH3 s3 _=>?_
 ·have k3:=k2.trans (ag s3)
  refine⟨_,rfl,_,rfl,_,rfl,_,rfl,a,t,ns,4,_,rfl,dw.sc.keep k3,tp2.same s3,by omega,by decide,λd H4 d0 d1 k4 tp4=>⟨_,_,rfl,rfl,a,t,ns,1+d,_,true,rfl,dw.sc.keep (k3.trans k4),tp4,by omega,by omega,by omega,λl H5 hl ha k5 tp5=>?_⟩⟩
  have hl7:l.length<=4:=by omega
  exact⟨big (show (2:Nat)<=1000000 by decide),λt0 ht0=>fin2 (p := .one (.code (S l))) (by decide +kernel) ((k3.trans k4).trans k5) (tp5.le (by omega)) (dS ha (by omega)) rfl (.one ⟨ha,by show l.length+2<=50;omega⟩) t0 ht0⟩
 have k3:=k2.trans (ag s3)
 have tp3:=tp2.same s3
 clear s3
 dsimp only[a9]
 have link:∀H4,KeepX t H H4->Tp t (u+1) H4->∀X:Ends,X.rt=Q->tSeq (tAsg (cG (gR K) [] E0 (aE (tVar 0) (aE (tVar 1) (aE (tOp (rI0 λi j => .int (i+j)) (tC (.int 1)) (cG (bG K) [] E0 (aE (tVar 0) (aE (tVar 1) (aE (tC (.int 4)) tNil))))) (aE (tC (.bl false)) tNil))))) (av 7))
   (tRet (tTup (aE (tC (.str "link")) (aE (tOp (rIxL K) (tLst (aE (tVar 7) (aE (tOp (λx y H Q=>∃i j,x = .str i/\y = .str j/\i.length+j.length<=sizeLine/\Q (.str (i++j)) H) (tC (.str "^")) (tVar 7)) tNil))) (cG (bG K) [] E0 (aE (tVar 0) (aE (tVar 1) (aE (tC (.int 2)) tNil))))) (aE (tOp (rIxL K) (tVar 2) (cG (bG K) [] E0 (aE (tVar 0) (aE (tVar 1) (aE (tC (.int 5)) tNil))))) tNil)))))
   X [some (V.ref a),some (V.ref t),some (V.ref nm),some (V.str bf),some (V.bl inner),some (V.int kd),none,none] H4:=λH4 k4 tp4 X hX=>by
  refine⟨_,rfl,_,rfl,_,rfl,_,rfl,a,t,ns,4,_,rfl,dw.sc.keep k4,tp4,by omega,by decide,λd H5 d0 d1 k5 tp5=>⟨_,_,rfl,rfl,a,t,ns,1+d,_,false,rfl,dw.sc.keep (k4.trans k5),tp5,by omega,by omega,by omega,λl H6 hl ha k6 tp6=>?_⟩⟩
  dsimp only[av,sA,sB]
  have hl7:l.length<=4:=by omega
  have k46:=(k4.trans k5).trans k6
  refine⟨_,rfl,aH (aN (b:=[94]) rfl) (ev_v (v:=vS l) rfl) (by show 1+_<=_;omega) _ ⟨big (show (2:Nat)<=1000000 by decide),λo ho=>?_⟩⟩
  have so:=ac ho (.lst [vS l,vS ([94]++l)])
  have eo:upd H6 o (.lst [vS l,vS ([94]++l)]) o=some (.lst [vS l,vS ([94]++l)]):=aa
  generalize upd H6 o (.lst [vS l,vS ([94]++l)])=H7 at so eo ⊢
  have k47:=k46.trans (ag so)
  refine⟨_,rfl,_,rfl,a,t,ns,2,_,rfl,dw.sc.keep k47,tp6.same so,by omega,by decide,λe H8 e0 e1 k8 tp8=>?_⟩
  have hot:o≠t:=λz=>by rw[z] at ho;exact tp6.ne ho
  have eo8:=k8 _ _ hot eo
  have hw:∃wd:List Nat,atI [vS l,vS ([94]++l)] e=some (vS wd)/\Asc wd/\wd.length<=5:=by
   have:e=0 ∨ e=1:=by omega
   rcases this with z |z
   ·exact⟨l,by rw[z];exact aC (j:=0) rfl,ha,by omega⟩
   ·exact⟨[94]++l,by rw[z];exact aC (j:=1) rfl,ay (aI _ rfl) ha,by rw[l5];show 1+_<=_;omega⟩
  obtain⟨wd,hat,hwa,hwl⟩:=hw
  refine⟨o,_,_,vS wd,rfl,rfl,SqL.of eo8,hat,?_⟩
  have k48:=k47.trans k8
  refine⟨_,rfl,_,rfl,_,rfl,a,t,ns,5,_,rfl,dw.sc.keep k48,tp8,by omega,by decide,λn H9 n0 n1 k9 tp9=>(dw.nms.keep (k48.trans k9)).ix n0 n1 λnl hnl=>⟨big (show (3:Nat)<=1000000 by decide),λt0 ht0=>?_⟩⟩
  have k49:=k48.trans k9
  have sn:=ac ht0 (.tup [V.str "link",vS wd,vS nl])
  have hne:t0≠t:=λz=>by rw[z] at ht0;exact tp9.ne ht0
  rw[hX]
  refine q _ (.one (.link (S wd) (S nl))) _ (k49.trans (ag sn)) ((tp9.same sn).le (by omega)) (.one ⟨⟨hwa,hnl.1⟩,?_⟩) ?_
  ·show wd.length+nl.length+20<=50
   have:=hnl.2
   omega
  ·have hn2:=hnl.2
   exact .tup (by rw[ar (aB k49 hne ht0),aa]) (.cons (dn_k (by decide +kernel)) (.cons (dS hwa (by omega)) (.cons (dS hnl.1 (by omega)) .nil)))
 have tail : ∀ H4, KeepX t H H4 -> Tp t (u + 1) H4 -> ∀ X : Ends, X.rt = Q -> tSeq (tIfS (tOr (bH (tOp rEq (tVar 5) (tC (.int 5)))) (bH (tOp rEq (tVar 5) (tC (.int 4))))) (tSeq (tAsg (cG (gR K) [] E0 (aE (tVar 0) (aE (tVar 1) (aE (tOp (rI0 λi j => .int (i+j)) (tC (.int 1)) (cG (bG K) [] E0 (aE (tVar 0) (aE (tVar 1) (aE (tC (.int 4)) tNil))))) (aE (tC (.bl false)) tNil))))) (av 7))
   (tRet (tTup (aE (tC (.str "link")) (aE (tOp (rIxL K) (tLst (aE (tVar 7) (aE (tOp (λx y H Q=>∃i j,x = .str i/\y = .str j/\i.length+j.length<=sizeLine/\Q (.str (i++j)) H) (tC (.str "^")) (tVar 7)) tNil))) (cG (bG K) [] E0 (aE (tVar 0) (aE (tVar 1) (aE (tC (.int 2)) tNil))))) (aE (tOp (rIxL K) (tVar 2) (cG (bG K) [] E0 (aE (tVar 0) (aE (tVar 1) (aE (tC (.int 5)) tNil))))) tNil)))))) a9)
   (tRet (tTup (aE (tC (.str "note")) (aE (tOp (rIxL K) (tVar 2) (cG (bG K) [] E0 (aE (tVar 0) (aE (tVar 1) (aE (tC (.int 5)) tNil))))) tNil)))) X [some (V.ref a),some (V.ref t),some (V.ref nm),some (V.str bf),some (V.bl inner),some (V.int kd),none,none] H4:=λH4 k4 tp4 X hX=>by
  refine s_if _ (t_or _ _ (λR k=>⟨_,rfl,rfl,_,rfl,k _ (Same.refl _)⟩) λ_ H5 s5 R k=>⟨_,rfl,rfl,_,rfl,k _ (Same.refl _)⟩) (λH5 s5 _=>link H5 (k4.trans (ag s5)) (tp4.same s5) _ hX) λH5 s5 _=>?_
  have k5:=k4.trans (ag s5)
  refine⟨_,rfl,_,rfl,_,rfl,a,t,ns,5,_,rfl,dw.sc.keep k5,tp4.same s5,by omega,by decide,λn H6 n0 n1 k6 tp6=>(dw.nms.keep (k5.trans k6)).ix n0 n1 λnl hnl=>⟨big (show (2:Nat)<=1000000 by decide),λt0 ht0=>?_⟩⟩
  have hn2:=hnl.2
  rw[hX]
  exact fin2 (p := .one (.note (S nl))) (by decide +kernel) (k5.trans k6) (tp6.le (by omega)) (dS hnl.1 (by omega)) rfl (.one ⟨hnl.1,by show nl.length+20<=50;omega⟩) t0 ht0
 refine s_if (decide (V.int kd=V.int 4) && !inner) (iU _ _ (λR k=>⟨_,rfl,rfl,_,rfl,k _ (Same.refl _)⟩) λ_ H4 s4=>t_not _ (t_bv (ev_v rfl))) (λH4 s4 z=>?_) λH4 s4 _=>tail H4 (k3.trans (ag s4)) (tp3.same s4) _ rfl
 have hin:inner=false:=by
  rw[Bool.and_eq_true] at z
  cases inner with
  |true=>exact Bool.noConfusion z.2
  |false=>rfl
 subst hin
 have k4:=k3.trans (ag s4)
 have tp4:=tp3.same s4
 refine⟨_,rfl,_,rfl,_,rfl,_,rfl,_,rfl,a,t,ns,3,_,rfl,dw.sc.keep k4,tp4,by omega,by decide,λd H5 d0 d1 k5 tp5=>⟨_,_,rfl,rfl,?_⟩⟩
 obtain⟨dn,rfl⟩:∃dn:Nat,d=(dn:Int):=⟨d.toNat,(l38 d0).symm⟩
 refine hI rfl _ _ _ _ ⟨a,t,nm,ns,ls,_,1+dn,rfl,dw.go (k4.trans k5) tp5 (by omega),by have h1:u<=740000000000:=hu1;show _<=(750000000000:Int);omega,by omega,λr xs ps H6 k6 tp6 hr6 e6 hpl hps hn=>⟨big (show (2:Nat)<=1000000 by decide),λt0 ht0=>?_⟩⟩
 have k46:=(k4.trans k5).trans k6
 have sn:=ac ht0 (.tup [V.str "strong",V.ref r])
 have hne:t0≠t:=λz=>by rw[z] at ht0;exact tp6.ne ht0
 have hrt:r≠t:=λz=>by rw[z] at hr6;exact tp5.ne hr6
 have hrH:=aB (k4.trans k5) hrt hr6
 have hps1:∃qs:List P1,ps=qs.map .one/\∀q∈qs,Ok1 q/\sz1 q<=50:=by
  clear hn hpl
  induction ps with
  |nil=>exact⟨[],rfl,λ_ z=>nomatch z⟩
  |cons p ps ih=>
   obtain⟨qs,rfl,hqs⟩:=ih λx hx=>hps x (l15 _ hx)
   obtain⟨h1,h2,_⟩:=hps p l13
   obtain⟨q0,rfl,h3⟩:=h1 rfl
   refine⟨q0::qs,rfl,λx hx=>?_⟩
   rcases l9.mp hx with rfl |z
   ·exact⟨h2,h3⟩
   ·exact hqs x z
 obtain⟨qs,rfl,hqs⟩:=hps1
 rw[l6] at hpl
 have em:(qs.map PC.one).map dP=qs.map Lw.d1:=by rw[l28];rfl
 rw[em] at hn
 have hxl:xs.length=qs.length:=by
  obtain⟨G,_,_,_,e⟩:=hn
  rw[e.len,l6]
 refine q _ (.strong qs) _ (k46.trans (ag sn)) ((tp6.same sn).le (by rw[show cst true=40 from rfl,show cst false=170 from rfl];omega)) ⟨(λz=>Bool.noConfusion z),(λx hx=>(hqs x hx).1),?_⟩ ?_
 ·show (qs.map sz1).sum+2<=160
  have hsum:(qs.map sz1).sum<=50 * qs.length:=by
   clear hn em hxl hpl hps
   induction qs with
   |nil=>exact l7 _
   |cons q0 qs ih=>
    have h1:=(hqs q0 l13).2
    have h2:=ih λx hx=>hqs x (l15 _ hx)
    rw[l19,l35,l8]
    omega
  omega
 ·refine .tup (by rw[ar (aB k46 hne ht0),aa]) (.cons (dn_k (by decide +kernel)) (.cons (.lst (xs:=xs) ?_ ?_ (by omega)) .nil))
  ·rw[ar hrH];exact sn _ _ e6
  ·have d6:DnAll (dif H5 H6) xs (qs.map Lw.d1):=hn.dif cf
   exact d6.same ((bu tp5.ne (k4.trans k5)).trans (bm (Same.refl _) sn))
end
end K11
namespace Lw
open PySem L2 Lm
theorem gS {G:Hp}{v:V}{k s:Str}(h:Dn G v (.tuple [.str k, .str s])):∃a,v = .ref a/\G a=some (.tup [.str k, .str s]):=by
 cases h with |tup e r=>cases r with |cons a r=>cases r with |cons b r=>cases r;cases a;cases b;exact⟨_,rfl,e⟩
theorem told3 {G:Hp}{v:V}{k s n:Str}(h:Dn G v (.tuple [.str k, .str s, .str n])):∃a,v = .ref a/\G a=some (.tup [.str k, .str s, .str n]):=by
 cases h with |tup e r=>cases r with |cons a r=>cases r with |cons b r=>cases r with |cons c r=>cases r;cases a;cases b;cases c;exact⟨_,rfl,e⟩
theorem oy {G:Hp}{v:V}{k:Str}{d:PyData}(h:Dn G v (.tuple [.str k,d])):∃a y,v = .ref a/\G a=some (.tup [.str k,y])/\Dn G y d:=by
 cases h with |tup e r=>cases r with |cons a r=>cases r with |cons b r=>cases r;cases a;exact⟨_,_,rfl,e,b⟩
theorem s_five {tk:TE}{A B C D E:TS}{X:Ends}{σ:St}{H:Hp}(p:PC)(ev:∀H',Same H H'->Ev tk σ H' (.str (kdP p)))(h:∀H',Same H H'->(match p with | .one (.plain _)=>A | .one (.code _)=>B | .strong _=>C | .one (.link _ _)=>D | .one (.note _)=>E) X σ H'):
  tIfS (bH (tOp rEq tk (tC (.str "plain")))) A (tIfS (bH (tOp rEq tk (tC (.str "code")))) B (tIfS (bH (tOp rEq tk (tC (.str "strong")))) C (tIfS (bH (tOp rEq tk (tC (.str "link")))) D E))) X σ H:=by
 obtain⟨a,b,c,d,e,f,g,i,j,l⟩:=kinds
 have q:∀H',Same H H'->∀y:Str,Tells (bH (tOp rEq tk (tC (.str y)))) σ H' (decide (kdP p=y)):=λH' s' y=>lj (ev H' s') ev_c
 refine s_if _ (q H (Same.refl H) _) (λH1 s1 z=>?_) λH1 s1 n1=>s_if _ (q H1 s1 _) (λH2 s2 z=>?_) λH2 s2 n2=>s_if _ (q H2 (s1.trans s2) _) (λH3 s3 z=>?_) λH3 s3 n3=>s_if _ (q H3 ((s1.trans s2).trans s3) _) (λH4 s4 z=>?_) λH4 s4 n4=>?_
 ·have z:kdP p=eI:=of_decide_eq_true z
  match p,z,h with
  | .one (.plain _),_,h=>exact h _ s1
  | .one (.code _),z,_=>exact absurd z.symm a
  | .strong _,z,_=>exact absurd z.symm c
  | .one (.link _ _),z,_=>exact absurd z.symm g
  | .one (.note _),z,_=>exact absurd z.symm b
 ·have z:kdP p=i0:=of_decide_eq_true z
  match p,z,h with
  | .one (.plain _),z,_=>exact absurd z a
  | .one (.code _),_,h=>exact h _ (s1.trans s2)
  | .strong _,z,_=>exact absurd z.symm e
  | .one (.link _ _),z,_=>exact absurd z.symm i
  | .one (.note _),z,_=>exact absurd z.symm d
 ·have z:kdP p=cA:=of_decide_eq_true z
  match p,z,h with
  | .one (.plain _),z,_=>exact absurd z c
  | .one (.code _),z,_=>exact absurd z e
  | .strong _,_,h=>exact h _ ((s1.trans s2).trans s3)
  | .one (.link _ _),z,_=>exact absurd z.symm l
  | .one (.note _),z,_=>exact absurd z f
 ·have z:kdP p=gD:=of_decide_eq_true z
  match p,z,h with
  | .one (.plain _),z,_=>exact absurd z g
  | .one (.code _),z,_=>exact absurd z i
  | .strong _,z,_=>exact absurd z l
  | .one (.link _ _),_,h=>exact h _ (((s1.trans s2).trans s3).trans s4)
  | .one (.note _),z,_=>exact absurd z j
 ·have n1:kdP p≠eI:=of_decide_eq_false n1
  have n2:kdP p≠i0:=of_decide_eq_false n2
  have n3:kdP p≠cA:=of_decide_eq_false n3
  have n4:kdP p≠gD:=of_decide_eq_false n4
  match p,n1,n2,n3,n4,h with
  | .one (.plain _),z,_,_,_,_=>exact absurd rfl z
  | .one (.code _),_,z,_,_,_=>exact absurd rfl z
  | .strong _,_,_,z,_,_=>exact absurd rfl z
  | .one (.link _ _),_,_,_,z,_=>exact absurd rfl z
  | .one (.note _),_,_,_,_,h=>exact h _ (((s1.trans s2).trans s3).trans s4)
theorem S_ex (s:Str):∃l,s=S l:=⟨_,(S_of s).symm⟩
theorem mY {H:Hp}{xs:List V}{ps:List PC}{i:Nat}{x:V}(da:DnAll H xs (ps.map dP))(hx:xs[i]? = some x):∃p,ps[i]? = some p/\ps.drop i=p::ps.drop (i+1)/\Dn H x (dP p):=by
 obtain⟨hil,_⟩:=List.getElem?_eq_some_iff.mp hx
 have hl:=da.len
 rw[l6] at hl
 have hi:i < ps.length:=by omega
 refine⟨ps[i],List.getElem?_eq_getElem hi,List.drop_eq_getElem_cons hi,?_⟩
 obtain⟨v,h1,h2⟩:=da.get (i:=i) (d:=dP ps[i]) (by rw[List.getElem?_map,List.getElem?_eq_getElem hi];rfl)
 rw[hx] at h1
 cases h1
 exact h2
theorem gT {H:Hp}{v:V}{p:PC}(h:Dn H v (dP p)):∃a ys,v = .ref a/\H a=some (.tup (.str (kdP p)::ys)):=by
 match p,h with
 | .one (.plain _),h=>obtain⟨a,e,k⟩:=gS h;exact⟨a,_,e,k⟩
 | .one (.code _),h=>obtain⟨a,e,k⟩:=gS h;exact⟨a,_,e,k⟩
 | .one (.link _ _),h=>obtain⟨a,e,k⟩:=told3 h;exact⟨a,_,e,k⟩
 | .one (.note _),h=>obtain⟨a,e,k⟩:=gS h;exact⟨a,_,e,k⟩
 | .strong _,h=>obtain⟨a,y,e,k,_⟩:=oy h;exact⟨a,_,e,k⟩
theorem fZ {b:Bool}{l:List Nat}{c:Nat}(hc:c≠58):aK b (c::l)=c::l:=by
 unfold aK
 rw[if_neg]
 rw[Bool.and_eq_true,decide_eq_true_eq]
 exact λz=>hc (Option.some.inj z.2)
def bsl (b:Bool):List Nat:=if b then [92] else []
theorem note_kd (p:PC):decide (kdP p=fQ)=cY p:=by
 obtain⟨a,b,c,d,e,f,g,i,j,l⟩:=kinds
 match p with
 | .one (.plain _)=>exact decide_eq_false b
 | .one (.code _)=>exact decide_eq_false d
 | .strong _=>exact decide_eq_false (Ne.symm f)
 | .one (.link _ _)=>exact decide_eq_false (Ne.symm j)
 | .one (.note _)=>exact decide_eq_true rfl
section
variable {K:PySem.W.Frag}{σ:St}{H:Hp}{ta tb:TE}
theorem qt {x y : Str} (h1 : Ev ta σ H (.str x)) : Ev (tOp rEq ta (tC (.str y))) σ H (.bl (decide (x = y))) := fun R r => h1 _ ⟨rfl,by
 rw[show decide (x=y)=decide (V.str x=V.str y) from decide_eq_decide.mpr ⟨congrArg V.str,V.str.inj⟩] at r
 exact r⟩
end
def Gs1:P1->Prop
 | .plain s=>StrG s
 | .code s=>StrG s
 | .link w n=>StrG w/\StrG n
 | .note n=>StrG n
theorem gU {G:Hp}{v:V}{s:Str}(h:Dn G v (.str s)):StrG s:=by cases h with |str _ a b=>exact⟨a,b⟩
theorem ji {G:Hp}{v:V}:∀{p:P1},Dn G v (d1 p)->Gs1 p
 | .plain _,h=>let ⟨_,_,_,_,k⟩:=oy h;gU k
 | .code _,h=>let ⟨_,_,_,_,k⟩:=oy h;gU k
 | .note _,h=>let ⟨_,_,_,_,k⟩:=oy h;gU k
 | .link _ _,h=>by cases h with |tup _ r=>cases r with |cons _ r=>cases r with |cons a r=>cases r with |cons b _=>exact⟨gU a,gU b⟩
theorem kA {te:TE}{v:V}{i:Nat}{D:Ends}{σ:St}{H:Hp}(e:Ev te σ H v)(h:D.nx (σ.set i (some v)) H):tAsg te (av i) D σ H:=e _ h
theorem s_asgQ {te:TE}{v:V}{i:Nat}{u:TS}{D:Ends}{σ:St}{H:Hp}(e:Ev te σ H v)(h:u D (σ.set i (some v)) H):tSeq (tAsg te (av i)) u D σ H:=e _ h
end Lw
namespace K11
open PySem L2 Lm Lw PySem.Builtin.Int
section
abbrev sSome:Stmt:=top 65
theorem scSome:FnScope ["_law_script","_law_tape","_law_names_here","_law_many","_law_is_inner","_law_parts_here","_law_before","_law_k"] p18 (ad sSome):=mkS
theorem qu {m:Nat}{inner:Bool}(F:Fun K "_law_some" "_law_some" sSome f fd)(T:TxD mg)(D_l_part:Def P w K mg base m "_law_part" p35 (mX K inner)):FnOk P w K mg base CX0 (m+1) f fd p18 (kz K inner):=by
 have sc:=scSome
 refine F.oks sc λcdv A outer s H vs Q E hr h=>?_
 obtain⟨a,t,nm,ns,ls,u,many,rfl,dw,hu1,hm4,q⟩:=h
 obtain⟨bl,bl2⟩:=bP_le inner
 obtain⟨cl,cl2⟩:=cst_le inner
 have hs:sizeLine=16777216:=sizeLine_eq
 refine ao (xbc (xset (i:=5) sc.nd rfl (Or.inl rfl) (xlst xa0))
  (xbc (xset (i:=6) sc.nd rfl (Or.inl rfl) xstr)
  (xbc (xfor PassesOwn.never rfl (xir1 rfl T.n_range (xac (xv 3) xa0)) (xgn (i:=7) sc.nd rfl (Or.inl rfl))
  (xbc (b8 (xm PySem.F.plainAttrs_list PySem.F.slot_list_append PySem.F.type_list_append aP (xv 5) (xac (xcd D_l_part hr (xac (xv 0) (xac (xv 1) (xac (xv 2) (xac (xv 6) (xac (xv 4) xa0)))))) xa0)))
  (xb1 (xset (i:=6) sc.nd rfl (Or.inl rfl) (xix al (xix aU (xv 5) (xun ej xint) (λ_ _=>rfl)) xint (λ_ _=>rfl))))))
  (xb1 (xret (xv 5)))))) ?_
 rw[show aS ["_law_script","_law_tape","_law_names_here","_law_many","_law_is_inner","_law_parts_here","_law_before","_law_k"] [V.ref a,V.ref t,V.ref nm,V.int many,V.bl inner]=[some (V.ref a),some (V.ref t),some (V.ref nm),some (V.int many),some (V.bl inner),none,none,none] from rfl]
 refine bJ λU0 eU=>?_
 refine⟨big (show (0:Nat)<=1000000 by decide),λr hr0=>?_⟩
 have s1:=ac hr0 (.lst [])
 have e1:upd H r (.lst []) r=some (.lst []):=aa
 dsimp only[av,sA,sB]
 refine eU _ _ _ ?_
 generalize upd H r (.lst [])=H1 at s1 e1 ⊢
 refine c9 ?_
 dsimp only[sA,sB]
 refine⟨_,rfl,_,rfl,by omega,by omega,?_⟩
 rw[l34]
 have hrt:r≠t:=λz=>by rw[z] at hr0;exact dw.tp.ne hr0
 refine cF (n:=many) (λi σ H'=>∃(xs:List V) (ps:List PC) (bf:Str) (x7:Option V),σ=[some (V.ref a),some (V.ref t),some (V.ref nm),some (V.int many),some (V.bl inner),some (.ref r),some (.str bf),x7]/\KeepX t H H'/\Tp t (u+cst inner * i) H'/\H' r=some (.lst xs)/\ps.length=i/\(∀p∈ps,SP inner p)/\NewQ H [r] H' (λG=>DnAll G xs (ps.map dP)))
  ⟨[],[],_,none,rfl,ag s1,by have:=dw.tp.same s1;simpa using this,e1,rfl,(λ_ z=>nomatch z),NewQ.triv .nil⟩ ?_ ?_
 ·rintro i σ H3 hi ⟨xs,ps,bf,x7,rfl,k3,tp3,er3,hpl,hps,hn⟩
  have hxl:xs.length=i:=by
   obtain⟨G,_,_,_,e⟩:=hn
   rw[e.len,l6,hpl]
  have hmul:cst inner * i<=170 * 4:=l70 (Int.mul_le_mul_of_nonneg_right cl2 (by omega)) (by omega)
  have hmul0:0<=cst inner * i:=l71 (by omega) (by omega)
  refine⟨_,rfl, .inl ⟨rfl,_,SqL.of er3⟩,_,rfl,_,rfl,_,rfl,_,rfl,_,rfl,a,t,nm,ns,ls,_,bf,rfl,dw.go k3 tp3 (by omega),by omega,λv p H4 k4 tp4 hp dv=>?_⟩
  have er4:=k4 _ _ hrt er3
  refine⟨r,xs,v,rfl,rfl,er4,by rw[hs];omega,?_⟩
  obtain⟨b,ys,rfl,eb⟩:=gT dv.out
  have hbr:b≠r:=λz=>by rw[z,er4] at eb;cases eb
  have hne:=dw.tp.ne
  have k5:KeepX t H (upd H4 r (.lst (xs++[V.ref b]))):=λx o hx e=>(af λz=>by rw[z,hr0] at e;cases e).trans ((k3.trans k4) x o hx e)
  have tp5:Tp t (u+cst inner * (i+1:Nat)) (upd H4 r (.lst (xs++[V.ref b]))):=by
   obtain⟨m',e,m0,m1⟩:=tp4
   refine⟨m',(af (Ne.symm hrt)).trans e,m0,l70 m1 ?_⟩
   have:((i+1:Nat):Int)=(i:Nat)+1:=by omega
   rw[this,Int.mul_add,Int.mul_one]
   omega
  have er5:upd H4 r (.lst (xs++[V.ref b])) r=some (.lst (xs++[V.ref b])):=aa
  have eb5:upd H4 r (.lst (xs++[V.ref b])) b=some (.tup (V.str (kdP p)::ys)):=(af hbr).trans eb
  have hn5:NewQ H [r] (upd H4 r (.lst (xs++[V.ref b]))) (λG=>DnAll G (xs++[V.ref b]) ((ps++[p]).map dP)):=by
   rw[l16]
   refine NewQ.upd ?_ l13
   refine NewQ.join (NewQ.keep hn hne k4) ?_ cf qp λG h1 h2=>fY h1 h2
   refine⟨dif H3 H4,dif_same,λx hx=>bd (by rw[l20.mp hx,er3];exact λz=>nomatch z),λx hx=>?_,dv⟩
   by_cases hxt:x=t
   ·rw[hxt];exact bd tp3.ne
   ·refine bd λz=>?_
    cases e:H x with
    |none=>exact hx e
    |some o=>rw[k3 x o hxt e] at z;cases z
  dsimp only
  generalize upd H4 r (.lst (xs++[V.ref b]))=H5 at k5 tp5 er5 eb5 hn5 ⊢
  refine kA (cj (jZ (ev_v rfl) (lf ev_c rfl) (SqL.of er5) (atI_last _ _)) ev_c (SqT.of eb5) (aC (j:=0) rfl)) ?_
  exact ⟨_,ps++[p],_,_,rfl,k5,tp5,er5,by rw[l5,hpl];rfl,λx hx=>by
   rcases l18.mp hx with z |z
   ·exact hps x z
   ·rw[l20.mp z];exact hp,hn5⟩
 ·rintro σ H3 ⟨xs,ps,bf,x7,rfl,k3,tp3,er3,hpl,hps,hn⟩
  exact⟨_,rfl,q r xs ps H3 k3 tp3 hr0 er3 hpl hps hn⟩
end
end K11
namespace Lm
open PySem PySem.Builtin PySem.Builtin.Str
theorem qv (sep:PySem.Str)(c:Nat):∀(rest:List PySem.Str) (acc:Array Nat),c∈(rest.foldl (λacc p=>acc++sep.cps++p.cps) acc).toList->c∈acc.toList ∨ c∈sep.cps.toList ∨ ∃p∈rest,c∈p.cps.toList
 | [],acc,h => .inl h
 |p::r,acc,h=>by
  rcases qv sep c r _ h with k |k |⟨q,hq,k⟩
  ·rw[Array.toList_append,Array.toList_append,l18,l18] at k
   rcases k with (k |k) |k
   ·exact .inl k
   ·exact .inr (.inl k)
   ·exact .inr (.inr ⟨p,l13,k⟩)
  ·exact .inr (.inl k)
  ·exact .inr (.inr ⟨q,l15 _ hq,k⟩)
theorem jj (l y z:List Nat):∃r,Txt.replace (S l) (S y) (S z)=S r/\(∀c∈r,c∈l ∨ c∈z)/\r.length<=l.length+(l.length+1) * z.length:=by
 unfold Txt.replace
 split
 ·exact⟨l,rfl,λc hc => .inl hc,l63 _ _⟩
 ·generalize hg:glued (S z) (partsBetween (S l) (occurrences (S l) (S y) 0 (S l).length ((S l).length+1)) (S y).length)=g
  refine⟨g.cps.toList,rfl,λc hc=>?_,?_⟩
  ·have hsub:∀p∈partsBetween (S l) (occurrences (S l) (S y) 0 (S l).length ((S l).length+1)) (S y).length,∀c∈p.cps.toList,c∈l:=λp hp c hc=>by
    unfold partsBetween at hp
    obtain⟨⟨i,j⟩,_,rfl⟩:=l32.mp hp
    have hc:c∈((S l).cps.extract i j).toList:=hc
    rw[Array.toList_extract,List.extract_eq_drop_take] at hc
    exact List.mem_of_mem_drop (List.mem_of_mem_take hc)
   rw[<- hg] at hc
   revert hsub hc
   cases partsBetween (S l) (occurrences (S l) (S y) 0 (S l).length ((S l).length+1)) (S y).length with
   |nil=>intro hc _;exact nomatch (show c∈([]:List Nat) from hc)
   |cons p ps=>
    intro hc hsub
    rcases qv _ c ps _ hc with k |k |⟨q,hq,k⟩
    ·exact .inl (hsub p l13 c k)
    ·exact .inr k
    ·exact .inl (hsub q (l15 _ hq) c k)
  ·have h1:=StrLaws.occ_length_le (S l) (S y) 0 (S l).length ((S l).length+1)
   have hy:(glued (S y) (partsBetween (S l) (occurrences (S l) (S y) 0 (S l).length ((S l).length+1)) (S y).length)).length=(S l).length:=by rw[StrLaws.glued_between_self]
   rw[size_glued,length_partsBetween,l69] at hy
   have hz:=size_glued (S z) (partsBetween (S l) (occurrences (S l) (S y) 0 (S l).length ((S l).length+1)) (S y).length)
   rw[hg] at hz
   rw[length_partsBetween,l69] at hz
   have h2:=l53 (S z).length h1
   show g.length<=_
   simp only[am] at h2 hy hz
   omega
end Lm
namespace L2
open PySem PySem.Spec PyProof.Rows
section
variable {X:Cx}{a b:Expr}{rest:List Expr}{ta tb:TE}{pos:Pos}
def tOrS (ta tb:TE):TE:=λσ H Q=>ta σ H λx H1=>∃z,x = .str z/\z.length<=sizeLine/\if z.length=0 then tb σ H1 Q else Q (.str z) H1
theorem pe_orS (ha:PE X a ta)(hb:PE X (.BoolOp .Or (b::rest) pos) tb):PE X (.BoolOp .Or (a::b::rest) pos) (tOrS ta tb):=by
 intro pins s σ H Q I h
 refine BoolOp_or (thn (ha pins s σ H _ I h) λv s1 ⟨x,H1,I1,r1,q1⟩=>?_)
 obtain⟨z,rfl,hz,q1⟩:=q1
 obtain⟨t,rfl⟩:=r1
 have hl:=f9
 have hs:sizeLine=16777216:=sizeLine_eq
 refine PySem.P.truthy_str (by omega) ?_
 by_cases h0:z.length=0
 ·rw[if_pos h0] at q1
  rw[show ((z.length:Int) != 0)=false by rw[h0];rfl]
  exact hb pins _ σ H1 Q (I1.tok _) q1
 ·rw[if_neg h0] at q1
  rw[show ((z.length:Int) != 0)=true by rw[bne_iff_ne];omega]
  exact⟨.str z,H1,I1.tok _,⟨t,rfl⟩,q1⟩
theorem xorS (h:XE X a ta)(h2:XE X (.BoolOp .Or (b::rest) pos) tb):XE X (.BoolOp .Or (a::b::rest) pos) (tOrS ta tb):=⟨pe_orS h.h h2.h⟩
open Builtin Builtin.Str
theorem op_mulL:OpR X (binaryOp .Mult) (λx y H Q=>∃z n,x = .str z/\y = .int n/\z.length=1/\0<=n/\n<=1000000/\Q (.str (Txt.mul z n)) H):=by
 intro pins s σ H x y v u Q I rx ry h
 obtain⟨z,n,rfl,rfl,hz,h0,h1,q⟩:=h
 obtain⟨t,rfl⟩:=rx
 obtain⟨t',rfl⟩:=ry
 refine wpAny_with_toks (n:=1) I.tk (SB.mul ?_ λt' k htk=>⟨.str (Txt.mul z n),H,I.tok _ htk,⟨_,rfl⟩,q⟩)
 have hs:sizeLine=16777216:=sizeLine_eq
 refine⟨?_,λ_ _=>?_,λ_ _=>?_⟩
 ·have e1:decide (n < -(2 ^ 63:Int))=false:=decide_eq_false (by omega)
  have e2:decide (n ≥ 2 ^ 63)=false:=decide_eq_false (by omega)
  rw[e1,e2];rfl
 ·rw[hz]
  have hn:n=0 ∨ 0 < n:=by omega
  intro q
  have h9:(2 ^ 63 - 1:Int) / n ≥ 1:=by
   rename_i a _
   have hp:0 < n:=by omega
   exact(l86 hp).mpr (by omega)
  omega
 ·unfold tooLong
  rw[hz]
  exact decide_eq_false (by omega)
end
end L2
namespace K11
open PySem L2 Lm Lw PySem.Builtin.Int
theorem fo {t:Addr}{H H3:Hp}(k:KeepX t H H3)(ht:H3 t≠none){b:Addr}(hb:H b≠none):H3 b≠none:=by
 by_cases h:b=t
 ·rw[h];exact ht
 ·cases e:H b with
  |none=>exact absurd e hb
  |some o=>rw[k b o h e];exact λz=>nomatch z
theorem NewQ.ofK {H H3 H4:Hp}{W:List Addr}{R:Hp->Prop}{t:Addr}(k:KeepX t H H3)(ht:H3 t≠none)(hW:∀b∈W,H3 b≠none)(h:R (dif H3 H4)):NewQ H W H4 R:=
 ⟨dif H3 H4,dif_same,λb hb=>bd (hW b hb),λb hb=>bd (fo k ht hb),h⟩
theorem NewQ.baseK {H H3 H4:Hp}{W:List Addr}{R:Hp->Prop}{t:Addr}(k:KeepX t H H3)(ht:H3 t≠none)(h:NewQ H3 W H4 R):NewQ H W H4 R:=
 let ⟨G,a,b,d,e⟩:=h;⟨G,a,b,λx hx=>d x (fo k ht hx),e⟩
theorem kC {t r T:Addr}{H H3:Hp}{xs:List V}{ps:List PC}{j:Nat}{l:List Nat}(k:KeepX t H H3)(ht:H3 t≠none)(er:H3 r=some (.lst xs))(hT:H3 T=none)(ha:Asc l)(hl:l.length<=400)(hn:NewQ H [r] H3 λG=>DnAll G xs (ps.map dP)):
  NewQ H [r] (upd (upd H3 T (.tup [.str "plain",vS l])) r (.lst (xs.set j (.ref T)))) λG=>DnAll G (xs.set j (.ref T)) ((ps.set j (.one (.plain (S l)))).map dP):=by
 refine NewQ.upd ?_ l13
 rw[List.map_set]
 refine NewQ.join (hn.same (ac hT _)) (NewQ.ofK (H3:=H3) (R:=λG=>Dn G (.ref T) (dP (.one (.plain (S l))))) k ht (λb hb=>by rw[l20.mp hb,er];exact λz=>nomatch z) ?_) cf qp λG h1 h2=>h1.set j h2
 exact .tup (by rw[ar hT,aa]) (.cons (dn_k (by decide +kernel)) (.cons (c8 ha (by omega)).dn .nil))
theorem qw {n j:Nat}(h:j < n):ixN n (j:Int)=some j:=by
 unfold ixN
 rw[if_pos (by omega),if_pos (by omega),l34]
theorem mZ {n:Nat}(h:0 < n):ixN n (-1)=some (n - 1):=by
 unfold ixN
 rw[if_neg (by decide),if_pos (by omega)]
 congr 1
 omega
theorem qx {xs:List V}{v:V}(h:xs[xs.length - 1]? = some v)(h0:0 < xs.length):atI xs (-1)=some v:=by
 unfold atI
 rw[mZ h0]
 exact h
theorem qy {r:Addr}{H H3:Hp}{xs:List V}{ps:List PC}{j:Nat}(hn:NewQ H [r] H3 λG=>DnAll G xs (ps.map dP))(hj:j < ps.length):∃x p,xs[j]? = some x/\ps[j]? = some p/\Dn H3 x (dP p):=by
 obtain⟨G,sG,_,_,da⟩:=hn
 obtain⟨x,h1,h2⟩:=(da.same sG).get (i:=j) (d:=dP ps[j]) (by rw[List.getElem?_map,List.getElem?_eq_getElem hj];rfl)
 exact⟨x,ps[j],h1,List.getElem?_eq_getElem hj,h2⟩
theorem m3:∀{p:PC},kdP p=eI->∃s,p = .one (.plain s)
 | .one (.plain s),_=>⟨s,rfl⟩
 | .one (.code _),z=>absurd z.symm kinds.1
 | .strong _,z=>absurd z.symm kinds.2.2.1
 | .one (.link _ _),z=>absurd z.symm kinds.2.2.2.2.2.2.1
 | .one (.note _),z=>absurd z.symm kinds.2.1
theorem ev_as {te:TE}{σ:St}{H:Hp}{v v':V}(h:Ev te σ H v)(e:v=v'):Ev te σ H v':=e▸h
theorem ev_orS {ta : TE} {σ : St} {H : Hp} {a b : List Nat} (h : Ev ta σ H (vS a)) (hl : a.length <= 1000000) : Ev (tOrS ta (tC (vS b))) σ H (vS (if a = [] then b else a)) := fun R r => h _ ⟨_,rfl,bigS hl,by
 rw[am]
 by_cases z:a=[]
 ·subst z;exact r
 ·rw[if_neg λy=>z (l90.mp y)]
  rw[if_neg z] at r
  exact r⟩
theorem s_asgT {te:TE}{x v:V}{g:TG}{D:Ends}{σ:St}{H:Hp}(e:Ev te σ H v)(h:∀T,H T=none->g (.ref T) σ (upd H T (.tup [x,v])) D.nx):tAsg (tTup (aE (tC x) (aE te tNil))) g D σ H:=e _ ⟨big (show (2:Nat)<=1000000 by decide),h⟩
def SPs (ps:List PC):Prop:=1<=ps.length/\ps.length<=4/\∀p∈ps,OkC p/\szC p<=400
def stL:List V:=[V.str "",V.str "",V.str "",V.str "- ",V.str "+ ",V.str "= ",V.str "=== ",V.str ">",V.str "> ",V.str "~~~",V.str "|",V.str "[",V.str "[a]: ",V.str "[^a]: ",V.str "\\",V.str "^",V.str ":",V.str "]"]
section
abbrev qz:Stmt:=top 66
theorem scParts:FnScope ["_law_script","_law_tape","_law_names_here","_law_starts","_law_parts_here","_law_text_here"] p7 (ad qz):=mkS
def gV (K:PySem.W.Frag):Sp:=λvs H Q _=>∃(a t nm:Addr) (ns:List Int) (ls:List (List Nat)) (u:Int),vs=[.ref a, .ref t, .ref nm]/\Drw K a t nm ns ls u H/\u<=720000000000/\∀r ps H',KeepX t H H'->Tp t (u+700) H'->SPs ps->Dn (dif H H') (.ref r) (.list (ps.map dP))->Q (.ref r) H'
theorem ok_parts {m:Nat}(F:Fun K "_law_parts" "_law_parts" qz f fd)(T:TxD mg)(D_l_draw:Def P w K mg base 1 "_law_draw" p8 (bG K))(D_l_some:Def P w K mg base m "_law_some" p18 (kz K false)):FnOk P w K mg base CX0 (m+2) f fd p7 (gV K):=by
 have sc:=scParts
 refine F.oks sc λcdv A outer s H vs Q E hr h=>?_
 obtain⟨a,t,nm,ns,ls,u,rfl,dw,hu1,q⟩:=h
 have hs:sizeLine=16777216:=sizeLine_eq
 refine ao (xbc (xset (i:=3) sc.nd rfl (Or.inl rfl) (xlst (xac xstr (xac xstr (xac xstr (xac xstr (xac xstr (xac xstr (xac xstr (xac xstr (xac xstr (xac xstr (xac xstr (xac xstr (xac xstr (xac xstr (xac xstr (xac xstr (xac xstr (xac xstr xa0))))))))))))))))))))
  (xbc (xset (i:=4) sc.nd rfl (Or.inl rfl) (xcd D_l_some hr (xac (xv 0) (xac (xv 1) (xac (xv 2) (xac (xop bp xint (xcd D_l_draw hr (xac (xv 0) (xac (xv 1) (xac xint xa0))))) (xac xbl xa0)))))))
  (xbc (xif (aw aD (xix al (xix aU (xv 4) xint (λ_ _=>rfl)) xint (λ_ _=>rfl)) xstr (ai _)) (xbc (xset (i:=5) sc.nd rfl (Or.inl rfl) (xop ae (xix aU (xv 3) (xcd D_l_draw hr (xac (xv 0) (xac (xv 1) (xac xint xa0)))) (λ_ _=>rfl)) (xix al (xix aU (xv 4) xint (λ_ _=>rfl)) xint (λ_ _=>rfl))))
  (xb1 (xasg (xtup (xac xstr (xac (xorS (xm PySem.F.plainAttrs_str PySem.F.slot_str_lstrip PySem.F.type_str_lstrip gj (oZ (xv 5) (by decide +kernel) (by decide +kernel)) (xac xstr xa0)) (xone xstr)) xa0))) (xgsub (xv 4) xint iL)))) xb0)
  (xbc (xif (aw aD (xix al (xix aU (xv 4) (xun ej xint) (λ_ _=>rfl)) xint (λ_ _=>rfl)) xstr (ai _)) (xb1 (xasg (xtup (xac xstr (xac (xorS (xm PySem.F.plainAttrs_str PySem.F.slot_str_rstrip PySem.F.type_str_rstrip jM (xix al (xix aU (xv 4) (xun ej xint) (λ_ _=>rfl)) xint (λ_ _=>rfl)) (xac xstr xa0)) (xone xstr)) xa0))) (xgsub (xv 4) (xun ej xint) iL))) xb0)
  (xb1 (xret (xv 4))))))) ?_
 rw[show aS ["_law_script","_law_tape","_law_names_here","_law_starts","_law_parts_here","_law_text_here"] [V.ref a,V.ref t,V.ref nm]=[some (V.ref a),some (V.ref t),some (V.ref nm),none,none,none] from rfl]
 refine bJ λU0 eU=>?_
 refine⟨big (show (18:Nat)<=1000000 by decide),λLs hLs=>?_⟩
 have s1:=ac hLs (.lst stL)
 have eL:upd H Ls (.lst stL) Ls=some (.lst stL):=aa
 show tSeq _ _ _ _ (upd H Ls (.lst stL))
 generalize upd H Ls (.lst stL)=H1 at s1 eL ⊢
 have k1:KeepX t H H1:=ag s1
 have tp1:=dw.tp.same s1
 have hLt:Ls≠t:=λz=>by rw[z] at hLs;exact dw.tp.ne hLs
 dsimp only[av,sA,sB]
 refine eU _ _ _ ?_
 refine⟨_,rfl,_,rfl,_,rfl,_,rfl,_,rfl,a,t,ns,4,_,rfl,dw.sc.keep k1,tp1,by omega,by decide,λd H2 d0 d1 k2 tp2=>?_⟩
 obtain⟨dn,rfl⟩:∃dn:Nat,d=(dn:Int):=⟨d.toNat,(l38 d0).symm⟩
 have k12:=k1.trans k2
 refine⟨_,_,rfl,rfl,a,t,nm,ns,ls,_,1+dn,rfl,dw.go k12 tp2 (by omega),by show _<=(730000000000:Int);omega,by omega,λr xs ps H3 k3 tp3 hr0 er hpl hps hn=>?_⟩
 have tp3:Tp t (u+682) H3:=tp3.le (by show u+1+170 * ((1+dn:Nat):Int)<=_;omega)
 have hn:=NewQ.baseK k12 tp2.ne hn
 have hrt:r≠t:=λz=>by rw[z] at hr0;exact tp2.ne hr0
 have hrH:H r=none:=aB k12 hrt hr0
 have k13:=k12.trans k3
 have eL3:=k3 _ _ hLt (k2 _ _ hLt eL)
 have hLr:Ls≠r:=λz=>by have:=k2 _ _ hLt eL;rw[z,hr0] at this;cases this
 dsimp only[av,sA,sB]
 refine bt (λσ' H'=>∃(xs:List V) (ps:List PC) (x5:Option V),σ'=[some (V.ref a),some (V.ref t),some (V.ref nm),some (V.ref Ls),some (V.ref r),x5]/\KeepX t H H'/\Tp t (u+690) H'/\H' r=some (.lst xs)/\(1<=ps.length/\ps.length<=4)/\(∀p∈ps,OkC p/\szC p<=400)/\NewQ H [r] H' (λG=>DnAll G xs (ps.map dP))) (λN hN=>?_) ?_
 ·have hlx:xs.length=ps.length:=by
   obtain⟨G,_,_,_,e⟩:=hn
   rw[e.len,l6]
  obtain⟨x0,p0,hx0,hp0,dn0⟩:=qy hn (j:=0) (by omega)
  obtain⟨b,ys,rfl,eb⟩:=gT dn0
  refine s_if _ (lj (cj (jZ (ev_v rfl) ev_c (SqL.of er) (aC (j:=0) hx0)) ev_c (SqT.of eb) (aC (j:=0) rfl)) ev_c) (λH4 s4 z=>?_) λH4 s4 _=>hN _ _ ⟨xs,ps,none,rfl,k13.trans (ag s4),(tp3.same s4).le (by omega),s4 _ _ er,by omega,λp hp=>⟨(hps p hp).2.1,l10 (hps p hp).2.2 (by decide)⟩,hn.same s4⟩
  obtain⟨z0,rfl⟩:=m3 (of_decide_eq_true z)
  obtain⟨l0,rfl⟩:=S_ex z0
  obtain⟨_,he,eb⟩:=gS dn0
  cases he
  have ok0:=hps _ (l17 hp0)
  have hl0:l0.length<=160:=ok0.2.2
  have ha0:Asc l0:=ok0.2.1.1
  have k4:=k13.trans (ag s4)
  have tp4:=tp3.same s4
  refine⟨_,rfl,_,rfl,_,rfl,a,t,ns,18,_,rfl,dw.sc.keep k4,tp4,by omega,by decide,λd5 H5 d50 d51 k5 tp5=>?_⟩
  obtain⟨st,hst,has,hls⟩:=at_ok (xs:=stL) (n:=6) (m:=18) (by decide +kernel) rfl d50 d51
  have er5:=k5 _ _ hrt (s4 _ _ er)
  have hbt:b≠t:=λz=>by obtain⟨m',e,_⟩:=tp3;rw[z,e] at eb;cases eb
  refine⟨Ls,stL,d5,vS st,rfl,rfl,SqL.of (k5 _ _ hLt (s4 _ _ eL3)),hst,?_⟩
  have eb5:=k5 _ _ hbt (s4 _ _ eb)
  refine(cj (jZ (ev_v rfl) ev_c (SqL.of er5) (aC (j:=0) hx0)) ev_c (SqT.of eb5) (aC (j:=1) rfl)) _ ⟨_,_,rfl,rfl,by rw[am,am,hs];omega,?_⟩
  rw[bb]
  have hll:(st++l0).length<=166:=by rw[l5];omega
  have hla:=ay has ha0
  generalize st++l0=l at hll hla ⊢
  dsimp only[av,sA,sB]
  obtain⟨l2,e2,m2,n2⟩:=jj l [32,32] [32]
  have hl2:Asc l2:=λc hc=>by
   rcases m2 c hc with z |z
   ·exact hla c z
   ·rw[l20.mp z];decide
  have hd:(l2.dropWhile ([32]:List Nat).contains).length<=340:=by
   have:=(List.dropWhile_sublist (([32]:List Nat).contains) (l:=l2)).length_le
   have:([32]:List Nat).length=1:=rfl
   rw[this] at n2
   omega
  have had:Asc (l2.dropWhile ([32]:List Nat).contains):=λc hc=>hl2 c ((List.dropWhile_sublist _).subset hc)
  have hel:=fS l2 [32]
  generalize l2.dropWhile ([32]:List Nat).contains=l3 at hd had hel
  have fin:∀l4:List Nat,Asc l4->l4≠[]->l4.length<=400->∀T,H5 T=none->N [some (V.ref a),some (V.ref t),some (V.ref nm),some (V.ref Ls),some (V.ref r),some (vS l)] (upd (upd H5 T (.tup [.str "plain",vS l4])) r (.lst (xs.set 0 (.ref T)))):=λl4 h1 h2 h3 T hT=>by
   have k45:=k4.trans k5
   have hTr:T≠r:=λz=>by rw[z,er5] at hT;cases hT
   have sT:=ac hT (.tup [.str "plain",vS l4])
   refine hN _ _ ⟨xs.set 0 (.ref T),ps.set 0 (.one (.plain (S l4))),_,rfl,λx o hx e=>?_,?_,aa,by rw[l78];omega,λp hp=>?_,kC k45 tp5.ne er5 hT h1 h3 (NewQ.keep (hn.same s4) dw.tp.ne k5)⟩
   ·rw[af λz=>by rw[z,hrH] at e;cases e]
    exact sT _ _ (k45 x o hx e)
   ·obtain⟨m',e,m0,m1⟩:=tp5.same sT
    exact⟨m',(af (Ne.symm hrt)).trans e,m0,by omega⟩
   ·rcases List.mem_or_eq_of_mem_set hp with z |z
    ·exact⟨(hps p z).2.1,l10 (hps p z).2.2 (by decide)⟩
    ·rw[z];exact⟨⟨h1,h2⟩,h3⟩
  refine⟨_,rfl,_,rfl,by rw[am];omega,?_⟩
  rw[show Txt.replace (S l) "  " " "=S l2 from e2]
  refine⟨rfl,_,_,rfl,rfl,bigS (by have:([32]:List Nat).length=1:=rfl;rw[this] at n2;omega),?_⟩
  refine⟨_,rfl,?_⟩
  rw[show Txt.lstripChars (S l2) " "=S l3 from hel,am]
  refine⟨by rw[hs];omega,?_⟩
  split
  ·exact⟨big (show (2:Nat)<=1000000 by decide),λT hT=>⟨_,rfl,r,xs,0,0,rfl,rfl,(ac hT _) _ _ er5,qw (j:=0) (by omega),fin [97] (aI _ rfl) (by decide) (by decide) T hT⟩⟩
  ·rename_i hz
   exact⟨big (show (2:Nat)<=1000000 by decide),λT hT=>⟨_,rfl,r,xs,0,0,rfl,rfl,(ac hT _) _ _ er5,qw (j:=0) (by omega),fin l3 had (λz=>hz (by rw[z];rfl)) (by omega) T hT⟩⟩
 rintro σ' H4 ⟨xs,ps,x5,rfl,k4,tp4,er4,hpl4,hps4,hn4⟩
 have hlx:xs.length=ps.length:=by
  obtain⟨G,_,_,_,e⟩:=hn4
  rw[e.len,l6]
 have hlx0:0 < xs.length:=by omega
 have fin:∀{xs:List V} {ps:List PC} {H':Hp},KeepX t H H'->Tp t (u+700) H'->H' r=some (.lst xs)->(1<=ps.length/\ps.length<=4)->(∀p∈ps,OkC p/\szC p<=400)->NewQ H [r] H' (λG=>DnAll G xs (ps.map dP))->Q (.ref r) H':=λ{xs ps H'} h1 h2 h3 h4 h5 h6=>by
  refine q r ps H' h1 h2 ⟨h4.1,h4.2,h5⟩ ?_
  exact .lst (by rw[ar hrH,h3]) (h6.dif cf) (by rw[(h6.dif cf).len,l6];omega)
 refine bt (λσ' H'=>∃(xs:List V) (ps:List PC),σ'=[some (V.ref a),some (V.ref t),some (V.ref nm),some (V.ref Ls),some (V.ref r),x5]/\KeepX t H H'/\Tp t (u+700) H'/\H' r=some (.lst xs)/\(1<=ps.length/\ps.length<=4)/\(∀p∈ps,OkC p/\szC p<=400)/\NewQ H [r] H' (λG=>DnAll G xs (ps.map dP))) (λN hN=>?_) ?_
 ·obtain⟨x0,p0,hx0,hp0,dn0⟩:=qy hn4 (j:=xs.length - 1) (by omega)
  obtain⟨b,ys,rfl,eb⟩:=gT dn0
  refine s_if _ (lj (cj (jZ (ev_v rfl) (lf ev_c rfl) (SqL.of er4) (qx hx0 hlx0)) ev_c (SqT.of eb) (aC (j:=0) rfl)) ev_c) (λH5 s5 z=>?_) λH5 s5 _=>hN _ _ ⟨xs,ps,rfl,k4.trans (ag s5),(tp4.same s5).le (by omega),s5 _ _ er4,hpl4,hps4,hn4.same s5⟩
  obtain⟨z0,rfl⟩:=m3 (of_decide_eq_true z)
  obtain⟨l0,rfl⟩:=S_ex z0
  obtain⟨_,he,eb⟩:=gS dn0
  cases he
  have ok0:=hps4 _ (l17 hp0)
  have hl0:l0.length<=400:=ok0.2
  have ha0:Asc l0:=ok0.1.1
  have k5:=k4.trans (ag s5)
  have tp5:=tp4.same s5
  have er5:=s5 _ _ er4
  have hd:(bM ([32]:List Nat).contains l0).length<=400:=l10 (cL _ l0).length_le hl0
  have had:Asc (bM ([32]:List Nat).contains l0):=λc hc=>ha0 c ((cL _ l0).subset hc)
  have hel:=mz l0 [32]
  generalize bM ([32]:List Nat).contains l0=l3 at hd had hel
  have fin:∀l4:List Nat,Asc l4->l4≠[]->l4.length<=400->∀T,H5 T=none->N [some (V.ref a),some (V.ref t),some (V.ref nm),some (V.ref Ls),some (V.ref r),x5] (upd (upd H5 T (.tup [.str "plain",vS l4])) r (.lst (xs.set (xs.length - 1) (.ref T)))):=λl4 h1 h2 h3 T hT=>by
   have sT:=ac hT (.tup [.str "plain",vS l4])
   refine hN _ _ ⟨xs.set (xs.length - 1) (.ref T),ps.set (xs.length - 1) (.one (.plain (S l4))),rfl,λx o hx e=>?_,?_,aa,by rw[l78];omega,λp hp=>?_,kC k5 tp5.ne er5 hT h1 h3 (hn4.same s5)⟩
   ·rw[af λz=>by rw[z,hrH] at e;cases e]
    exact sT _ _ (k5 x o hx e)
   ·obtain⟨m',e,m0,m1⟩:=tp5.same sT
    exact⟨m',(af (Ne.symm hrt)).trans e,m0,by omega⟩
   ·rcases List.mem_or_eq_of_mem_set hp with z |z
    ·exact hps4 p z
    ·rw[z];exact⟨⟨h1,h2⟩,h3⟩
  refine s_asgT (ev_orS (a:=l3) (b:=[98]) (ev_as (ev_s2 (a:=l0) (cj (jZ (ev_v rfl) (lf ev_c rfl) (SqL.of er5) (qx hx0 hlx0)) ev_c (SqT.of (s5 _ _ eb)) (aC (j:=1) rfl)) (by omega)) (congrArg V.str hel)) (by omega)) λT hT=>⟨_,rfl,_,rfl,r,xs,-1,xs.length - 1,rfl,rfl,(ac hT _) _ _ er5,mZ hlx0,?_⟩
  split
  ·exact fin [98] (aI _ rfl) (by decide) (by decide) T hT
  ·rename_i hz
   exact fin l3 had hz hd T hT
 rintro σ' H5 ⟨xs,ps,rfl,k5,tp5,er5,hpl5,hps5,hn5⟩
 exact⟨_,rfl,fin k5 tp5 er5 hpl5 hps5 hn5⟩
end
def CPs (ps:List PC):Prop:=ps.length<=4/\∀p∈ps,OkC p/\szC p<=400
theorem SPs.c {ps:List PC}(h:SPs ps):CPs ps:=⟨h.2.1,h.2.2⟩
def ceL:List V:=[V.str "-",V.str "---",V.str "--:",V.str ":",V.str "|",V.str "a|b",V.str "\\|",V.str "- -"]
theorem at_ok1 {xs:List V}{i:Int}{n m:Nat}(h:xs.all (λv=>okV n v && !okV 0 v)=true)(hm:xs.length=m)(h0:0<=i)(h1:i < (m:Nat)):∃l,atI xs i=some (vS l)/\Asc l/\l.length<=n/\l≠[]:=by
 obtain⟨v,e,hv⟩:=at_all (Pr:=λv=>(okV n v && !okV 0 v)=true) (l47.mp h) h0 (by rw[hm];exact h1)
 rw[Bool.and_eq_true] at hv
 obtain⟨l,rfl,ha,hl⟩:=pF hv.1
 exact⟨l,e,ha,hl,λz=>by subst z;exact absurd hv.2 (by decide)⟩
section
abbrev sCell:Stmt:=top 67
theorem scCell:FnScope ["_law_script","_law_tape","_law_names_here","_law_kind"] p7 (ad sCell):=mkS
def qA (K:PySem.W.Frag):Sp:=λvs H Q _=>∃(a t nm:Addr) (ns:List Int) (ls:List (List Nat)) (u:Int),vs=[.ref a, .ref t, .ref nm]/\Drw K a t nm ns ls u H/\u<=710000000000/\∀v ps H',KeepX t H H'->Tp t (u+710) H'->CPs ps->Dn (dif H H') v (.list (ps.map dP))->Q v H'
theorem ok_cell {m:Nat}(F:Fun K "_law_cell" "_law_cell" sCell f fd)(T:TxD mg)(D_l_draw:Def P w K mg base 1 "_law_draw" p8 (bG K))(D_l_parts:Def P w K mg base m "_law_parts" p7 (gV K)):FnOk P w K mg base CX0 (m+2) f fd p7 (qA K):=by
 have sc:=scCell
 refine F.oks sc λcdv A outer s H vs Q E hr h=>?_
 obtain⟨a,t,nm,ns,ls,u,rfl,dw,hu1,q⟩:=h
 have hs:sizeLine=16777216:=sizeLine_eq
 refine ao (xbc (xset (i:=3) sc.nd rfl (Or.inl rfl) (xcd D_l_draw hr (xac (xv 0) (xac (xv 1) (xac xint xa0)))))
  (xbc (xif (aw aD (xv 3) xint (ai _)) (xb1 (xret (xlst xa0))) xb0)
  (xbc (xif (aw aD (xv 3) xint (ai _)) (xb1 (xret (xlst (xac (xtup (xac xstr (xac (xix aU (xlst (xac xstr (xac xstr (xac xstr (xac xstr (xac xstr (xac xstr (xac xstr (xac xstr xa0))))))))) (xcd D_l_draw hr (xac (xv 0) (xac (xv 1) (xac xint xa0)))) (λ_ _=>rfl)) xa0))) xa0)))) xb0)
  (xb1 (xret (xcd D_l_parts hr (xac (xv 0) (xac (xv 1) (xac (xv 2) xa0))))))))) ?_
 rw[show aS ["_law_script","_law_tape","_law_names_here","_law_kind"] [V.ref a,V.ref t,V.ref nm]=[some (V.ref a),some (V.ref t),some (V.ref nm),none] from rfl]
 refine bJ λU0 eU=>?_
 refine⟨_,rfl,_,rfl,a,t,ns,4,u,rfl,dw.sc,dw.tp,by omega,by decide,λkd H1 kd0 kd1 k1 tp1=>?_⟩
 dsimp only[av,sA,sB]
 refine eU _ _ _ ?_
 refine s_if _ (λR k=>⟨_,rfl,rfl,_,rfl,k _ (Same.refl _)⟩) (λH2 s2 _=>?_) λH2 s2 _=>?_
 ·refine⟨big (show (0:Nat)<=1000000 by decide),λr hr0=>?_⟩
  have k2:=k1.trans (ag s2)
  have sn:=ac hr0 (.lst [])
  have hrt:r≠t:=λz=>by rw[z] at hr0;exact(tp1.same s2).ne hr0
  exact q _ [] _ (k2.trans (ag sn)) (((tp1.same s2).same sn).le (by omega)) ⟨by decide,λ_ z=>nomatch z⟩ (.lst (by rw[ar (aB k2 hrt hr0),aa]) .nil (by decide))
 dsimp only[a9]
 have k2:=k1.trans (ag s2)
 have tp2:=tp1.same s2
 clear s2
 refine s_if _ (λR k=>⟨_,rfl,rfl,_,rfl,k _ (Same.refl _)⟩) (λH3 s3 _=>?_) λH3 s3 _=>?_
 ·refine⟨big (show (8:Nat)<=1000000 by decide),λLs hLs=>?_⟩
  have k3:=k2.trans (ag s3)
  have tp3:=tp2.same s3
  have s4:=ac hLs (.lst ceL)
  have eL:upd H3 Ls (.lst ceL) Ls=some (.lst ceL):=aa
  have hLt:Ls≠t:=λz=>by rw[z] at hLs;exact tp3.ne hLs
  have k4:=k3.trans (ag s4)
  have tp4:=tp3.same s4
  refine⟨_,rfl,_,rfl,a,t,ns,8,_,rfl,dw.sc.keep k4,tp4,by omega,by decide,λd H5 d0 d1 k5 tp5=>?_⟩
  obtain⟨st,hst,has,hls,hne⟩:=at_ok1 (xs:=ceL) (n:=3) (m:=8) (by decide +kernel) rfl d0 d1
  refine⟨Ls,ceL,d,vS st,rfl,rfl,SqL.of (k5 _ _ hLt eL),hst,?_⟩
  have k45:=k4.trans k5
  refine⟨big (show (2:Nat)<=1000000 by decide),λT0 hT=>⟨big (show (1:Nat)<=1000000 by decide),λr hr0=>?_⟩⟩
  have sT:=ac hT (.tup [V.str "plain",vS st])
  have tpT:=tp5.same sT
  have hTt:T0≠t:=λz=>by rw[z] at hT;exact tp5.ne hT
  have hrt:r≠t:=λz=>by rw[z] at hr0;exact tpT.ne hr0
  have hTr:T0≠r:=λz=>by rw[<- z] at hr0;exact absurd aa (by rw[hr0];exact λz=>nomatch z)
  have kT:=k45.trans (ag sT)
  have sr:=ac hr0 (.lst [.ref T0])
  refine q _ [.one (.plain (S st))] _ (kT.trans (ag sr)) ((tpT.same sr).le (by omega)) ⟨by show 1<=4;decide,λp hp=>?_⟩ ?_
  ·rw[l20.mp hp]
   exact⟨⟨has,hne⟩,by show st.length<=400;omega⟩
  ·refine .lst (by rw[ar (aB kT hrt hr0),aa]) (.cons (.tup (by rw[ar (aB k45 hTt hT),af hTr,aa]) (.cons (dn_k (by decide +kernel)) (.cons (c8 has (by omega)).dn .nil))) .nil) (by show 1<=_;decide)
 ·have k3:=k2.trans (ag s3)
  have tp3:=tp2.same s3
  exact⟨_,rfl,_,rfl,_,rfl,a,t,nm,ns,ls,_,rfl,dw.go k3 tp3 (by omega),by omega,λr ps H4 k4 tp4 hp dn=>q _ ps _ (k3.trans k4) (tp4.le (by omega)) hp.c (dn.same (bu tp3.ne k3))⟩
end
def CCs (cs:List (List PC)):Prop:=cs.length<=3/\∀ps∈cs,CPs ps
section
abbrev ma:Stmt:=top 68
theorem scCellsL:FnScope p22 p22 (ad ma):=mkS
def spCells (K:PySem.W.Frag):Sp:=λvs H Q _=>∃(a t nm:Addr) (ns:List Int) (ls:List (List Nat)) (u:Int) (many:Nat),vs=[.ref a, .ref t, .ref nm, .int many]/\Drw K a t nm ns ls u H/\u<=700000000000/\many<=3/\∀r cs H',KeepX t H H'->Tp t (u+2200) H'->cs.length=many->CCs cs->Dn (dif H H') (.ref r) (bF cs)->Q (.ref r) H'
theorem qB {m:Nat}(F:Fun K "_law_cells" "_law_cells" ma f fd)(T:TxD mg)(D_l_cell:Def P w K mg base m "_law_cell" p7 (qA K)):FnOk P w K mg base CX0 (m+2) f fd p22 (spCells K):=by
 have sc:=scCellsL
 refine F.oks sc λcdv A outer s H vs Q E hr h=>?_
 obtain⟨a,t,nm,ns,ls,u,many,rfl,dw,hu1,hm3,q⟩:=h
 have hs:sizeLine=16777216:=sizeLine_eq
 refine ao (xb1 (xret (xlc (cl:=[("_law_tape",s.heap.objs.size+2),("_law_script",s.heap.objs.size+1),("_law_names_here",s.heap.objs.size+3)]) (own:=["_law_k"]) (fr:=[0,1,2]) (N':=["_law_k","_law_script","_law_tape","_law_names_here"]) rfl (bw (xs:=p7) ⟨rfl,⟨rfl,⟨rfl,trivial⟩⟩⟩ ⟨rfl,rfl, .inl rfl, .inl rfl,⟨rfl,rfl, .inl rfl, .inl rfl,⟨rfl,rfl, .inl rfl, .inl rfl,trivial⟩⟩⟩ (by decide +kernel)) (by decide +kernel) (by decide +kernel) (by with_unfolding_all rfl)
  (xir1 rfl T.n_range (xac (xv 3) xa0))
  (λ_ _ _ _=>xgn (i:=0) (show (["_law_k","_law_script","_law_tape","_law_names_here"]:List Str).Nodup by decide +kernel) rfl (Or.inl rfl)) (λ_ _ _ _=>xq0) (λ_ _ _ _=>(xcd D_l_cell hr (xac (xv 1) (xac (xv 2) (xac (xv 3) xa0)))))))) ?_
 rw[show aS p22 [V.ref a,V.ref t,V.ref nm,V.int many]=[some (V.ref a),some (V.ref t),some (V.ref nm),some (V.int many)] from rfl]
 refine⟨_,rfl,_,rfl,by omega,by omega,?_⟩
 rw[l34]
 refine lY (α:=List PC) t u 710 (λps => .list (ps.map dP)) CPs (by omega) dw.tp ?_ ?_
 ·intro i hi H1 k1 tp1 C N hC
  refine⟨(nfLe.refl _ _ _).set (by decide) _,iteT (B:=N H1) ⟨_,rfl,_,rfl,_,rfl,a,t,nm,ns,ls,_,rfl,dw.go k1 tp1 (by omega),by omega,λv ps H2 k2 tp2 hp dv=>hC v ps H2 k2 tp2 hp dv⟩⟩
 ·intro D H1 ys cs hD k1 tp1 e1 hl hok hn
  refine q D cs H1 k1 (tp1.le (by omega)) hl ⟨by omega,hok⟩ ?_
  exact .lst (by rw[ar hD,e1]) (hn.dif cf) (by rw[(hn.dif cf).len,l6];omega)
end
def TbOk (hd:List (List PC))(sd:List Bool)(ls:List (List (List PC))):Prop:=CCs hd/\sd.length<=3/\ls.length<=3/\∀l∈ls,CCs l
def dSd (sd:List Bool):PyData := .list (sd.map λb => .str (S (bU b)))
def dTb (hd:List (List PC))(sd:List Bool)(ls:List (List (List PC))):PyData := .tuple [.str "table",bF hd,dSd sd, .list (ls.map bF)]
theorem bg {G:Hp}{v:V}{ds:List PyData}(h:Dn G v (.list ds)):∃a xs,v = .ref a/\G a=some (.lst xs)/\DnAll G xs ds:=by
 cases h with |lst e r _=>exact⟨_,_,rfl,e,r⟩
section
abbrev m4:Stmt:=top 69
theorem scTable:FnScope ["_law_script","_law_tape","_law_names_here","_law_many","_law_head","_law_sides","_law_lines","_law_k"] p7 (ad m4):=mkS
def md (K:PySem.W.Frag):Sp:=λvs H Q _=>∃(a t nm:Addr) (ns:List Int) (ls:List (List Nat)) (u:Int),vs=[.ref a, .ref t, .ref nm]/\Drw K a t nm ns ls u H/\u<=690000000000/\∀v hd sd ls H',KeepX t H H'->Tp t (u+9000) H'->TbOk hd sd ls->Dn (dif H H') v (dTb hd sd ls)->Q v H'
theorem ok_table {m:Nat}(F:Fun K "_law_table" "_law_table" m4 f fd)(T:TxD mg)(D_l_draw:Def P w K mg base 1 "_law_draw" p8 (bG K))(D_l_cells:Def P w K mg base m "_law_cells" p22 (spCells K)):FnOk P w K mg base CX0 (m+2) f fd p7 (md K):=by
 have sc:=scTable
 refine F.oks sc λcdv A outer s H vs Q E hr h=>?_
 obtain⟨a,t,nm,ns,ls,u,rfl,dw,hu1,q⟩:=h
 have hs:sizeLine=16777216:=sizeLine_eq
 have hu:(A.deeper (PyProof.Rows.envOfC "_law_table" (ad m4) s.heap.objs.size f cdv)).units+64 < cLine:=by
  have:=hr.un
  omega
 refine ao (xbc (xset (i:=3) sc.nd rfl (Or.inl rfl) (xop bp xint (xcd D_l_draw hr (xac (xv 0) (xac (xv 1) (xac xint xa0))))))
  (xbc (xset (i:=4) sc.nd rfl (Or.inl rfl) (xlst xa0))
  (xbc (xset (i:=5) sc.nd rfl (Or.inl rfl) (xlst xa0))
  (xbc (xif (aw aD (xcd D_l_draw hr (xac (xv 0) (xac (xv 1) (xac xint xa0)))) xint (ai _)) (xbc (xset (i:=4) sc.nd rfl (Or.inl rfl) (xcd D_l_cells hr (xac (xv 0) (xac (xv 1) (xac (xv 2) (xac (xv 3) xa0))))))
  (xb1 (xslc (i:=5) sc.nd rfl rfl (cl:=[("_law_tape",s.heap.objs.size+2),("_law_script",s.heap.objs.size+1)]) (own:=["_law_k"]) (fr:=[0,1]) (N':=["_law_k","_law_script","_law_tape"]) rfl (bw (xs:=p12) ⟨rfl,⟨rfl,trivial⟩⟩ ⟨rfl,rfl, .inl rfl, .inl rfl,⟨rfl,rfl, .inl rfl, .inl rfl,trivial⟩⟩ (by decide +kernel)) (by decide +kernel) (by decide +kernel) (by with_unfolding_all rfl)
  (xir1 rfl T.n_range (xac (xv 3) xa0))
  (λ_ _ _ _=>xgn (i:=0) (show (["_law_k","_law_script","_law_tape"]:List Str).Nodup by decide +kernel) rfl (Or.inl rfl)) (λ_ _ _ _=>xq0) (λ_ _ _ _=>(xix iO (xlst (xac xstr (xac xstr xa0))) (xcd D_l_draw hr (xac (xv 1) (xac (xv 2) (xac xint xa0)))) (λ_ _=>rfl)))))) xb0)
  (xbc (xset (i:=6) sc.nd rfl (Or.inl rfl) (xlst xa0))
  (xbc (xfor PassesOwn.never rfl (xir1 rfl T.n_range (xac (xop bp (xcTy bO T.n_int rfl (xac (xcmp (jY hu) (xv 4) (xlst xa0) (ai _)) xa0)) (xcd D_l_draw hr (xac (xv 0) (xac (xv 1) (xac xint xa0))))) xa0)) (xgn (i:=7) sc.nd rfl (Or.inl rfl))
  (xb1 (b8 (xm PySem.F.plainAttrs_list PySem.F.slot_list_append PySem.F.type_list_append aP (xv 6) (xac (xcd D_l_cells hr (xac (xv 0) (xac (xv 1) (xac (xv 2) (xac (xv 3) xa0))))) xa0)))))
  (xb1 (xret (xtup (xac xstr (xac (xv 4) (xac (xv 5) (xac (xv 6) xa0))))))))))))) ?_
 rw[show aS ["_law_script","_law_tape","_law_names_here","_law_many","_law_head","_law_sides","_law_lines","_law_k"] [V.ref a,V.ref t,V.ref nm]=[some (V.ref a),some (V.ref t),some (V.ref nm),none,none,none,none,none] from rfl]
 refine⟨_,rfl,_,rfl,a,t,ns,3,u,rfl,dw.sc,dw.tp,by omega,by decide,λd H1 d0 d1 k1 tp1=>⟨_,_,rfl,rfl,?_⟩⟩
 obtain⟨dn,rfl⟩:∃dn:Nat,d=(dn:Int):=⟨d.toNat,(l38 d0).symm⟩
 dsimp only[av,sA,sB]
 rw[show (1:Int)+(dn:Nat)=((1+dn:Nat):Int) from rfl]
 have hm1:1<=1+dn/\1+dn<=3:=by omega
 generalize 1+dn=many at hm1 ⊢
 refine⟨big (show (0:Nat)<=1000000 by decide),λhb hhb=>?_⟩
 have s2:=ac hhb (.lst [])
 have e2:upd H1 hb (.lst []) hb=some (.lst []):=aa
 dsimp only[av,sA,sB]
 generalize upd H1 hb (.lst [])=H2 at s2 e2 ⊢
 refine⟨big (show (0:Nat)<=1000000 by decide),λsb hsb=>?_⟩
 have s3:=ac hsb (.lst [])
 have e3:upd H2 sb (.lst []) sb=some (.lst []):=aa
 dsimp only[av,sA,sB]
 generalize upd H2 sb (.lst [])=H3 at s3 e3 ⊢
 have k2:=k1.trans (ag s2)
 have k3:=k2.trans (ag s3)
 have tp3:=(tp1.same s2).same s3
 have hbt:hb≠t:=λz=>by rw[z] at hhb;exact tp1.ne hhb
 have hst:sb≠t:=λz=>by rw[z] at hsb;exact(tp1.same s2).ne hsb
 have dh:Dn (dif H H3) (.ref hb) (bF []) := .lst (by rw[ar (aB k1 hbt hhb)];exact s3 _ _ e2) .nil (by decide)
 have ds:Dn (dif H H3) (.ref sb) (dSd []) := .lst (by rw[ar (aB k2 hst hsb)];exact e3) .nil (by decide)
 refine bt (λσ' H'=>∃(hb sb:Addr) (hd:List (List PC)) (sd:List Bool),σ'=[some (V.ref a),some (V.ref t),some (V.ref nm),some (V.int many),some (V.ref hb),some (V.ref sb),none,none]/\KeepX t H H'/\Tp t (u+2300) H'/\CCs hd/\sd.length<=3/\Dn (dif H H') (.ref hb) (bF hd)/\Dn (dif H H') (.ref sb) (dSd sd)) (λN hN=>?_) ?_
 ·refine⟨_,rfl,_,rfl,a,t,ns,2,_,rfl,dw.sc.keep k3,tp3,by omega,by decide,λe H4 e0 e1 k4 tp4=>⟨rfl,_,rfl,?_⟩⟩
  have k34:=k3.trans k4
  refine ite2 (λ_=>?_) (λ_=>hN _ _ ⟨hb,sb,[],[],rfl,k34,tp4.le (by omega),⟨by decide,λ_ z=>nomatch z⟩,by decide,dh.same (cx dw.tp.ne k4),ds.same (cx dw.tp.ne k4)⟩)
  refine⟨_,rfl,_,rfl,_,rfl,_,rfl,a,t,nm,ns,ls,_,many,rfl,dw.go k34 tp4 (by omega),by omega,hm1.2,λhb' cs H5 k5 tp5 hl5 hc5 dc5=>?_⟩
  dsimp only[av,sA,sB]
  have k35:=k34.trans k5
  refine⟨_,rfl,_,rfl,by omega,by omega,?_⟩
  rw[l34]
  refine lY (α:=Bool) t _ 1 (λb => .str (S (bU b))) (λ_=>True) (by omega) tp5 ?_ ?_
  ·intro i hi H6 k6 tp6 C N' hC
   refine⟨(nfLe.refl _ _ _).set (by decide) _,iteT (B:=N' H6) ⟨big (show (2:Nat)<=1000000 by decide),λo ho=>?_⟩⟩
   have so:=ac ho (.lst [V.str "left",V.str "right"])
   have eo:upd H6 o (.lst [V.str "left",V.str "right"]) o=some (.lst [V.str "left",V.str "right"]):=aa
   have hot:o≠t:=λz=>by rw[z] at ho;exact tp6.ne ho
   have k36:=(k35.trans k6).trans (ag so)
   refine⟨_,rfl,_,rfl,a,t,ns,2,_,rfl,dw.sc.keep k36,tp6.same so,by omega,by decide,λe H8 e0 e1 k8 tp8=>?_⟩
   obtain⟨b,hat⟩:∃b:Bool,atI [V.str "left",V.str "right"] e=some (vS (bU b)):=by
    have:e=0 ∨ e=1:=by omega
    rcases this with z |z
    ·exact⟨false,by rw[z];exact aC (j:=0) rfl⟩
    ·exact⟨true,by rw[z];exact aC (j:=1) rfl⟩
   refine⟨o,_,e,vS (bU b),rfl,rfl,SqL.of (k8 _ _ hot eo),hat,hC _ b H8 ((ag so).trans k8) tp8 trivial ?_⟩
   exact(c8 (l:=bU b) (by cases b <;> exact aI _ rfl) (by cases b <;> decide)).dn
  ·intro D H6 ys sd hD k6 tp6 e6 hl6 _ hn6
   have dsd:Dn (dif H5 H6) (.ref D) (dSd sd) := .lst (by rw[ar hD,e6]) (hn6.dif cf) (by rw[(hn6.dif cf).len,l6];omega)
   exact hN _ _ ⟨hb',D,cs,sd,rfl,k35.trans k6,tp6.le (by omega),hc5,by omega,(dc5.same (bu tp4.ne k34)).same (cx dw.tp.ne k6),dsd.same (bu tp5.ne k35)⟩
 rintro σ' H4 ⟨hb,sb,hd,sd,rfl,k4,tp4,hhd,hsd,dh,ds⟩
 refine⟨big (show (0:Nat)<=1000000 by decide),λr hr0=>?_⟩
 have hrt:r≠t:=λz=>by rw[z] at hr0;exact tp4.ne hr0
 have hrH:=aB k4 hrt hr0
 have s5:=ac hr0 (.lst [])
 have e5:upd H4 r (.lst []) r=some (.lst []):=aa
 have n5:NewQ H [r] (upd H4 r (.lst [])) λG=>(Dn G (.ref hb) (bF hd)/\Dn G (.ref sb) (dSd sd))/\DnAll G [] (([]:List (List (List PC))).map bF):=⟨dif H H4,dif_same.trans s5,λb hb=>by rw[l20.mp hb,ar hrH];exact hr0,λb hb=>bd hb,⟨dh,ds⟩, .nil⟩
 dsimp only[av,sA,sB]
 generalize upd H4 r (.lst [])=H5 at s5 e5 n5 ⊢
 have k5:=k4.trans (ag s5)
 have tp5:=tp4.same s5
 obtain⟨hb',xh,ee,eh,_⟩:=bg (dh.out.same s5)
 cases ee
 refine⟨_,rfl,big (show (0:Nat)<=1000000 by decide),λo ho=>?_⟩
 have so:=ac ho (.lst [])
 have eo:upd H5 o (.lst []) o=some (.lst []):=aa
 have hor:r≠o:=λz=>by rw[<- z,e5] at ho;cases ho
 generalize upd H5 o (.lst [])=H6 at so eo ⊢
 have k6:=k5.trans (ag so)
 refine⟨hb,o,_,rfl,rfl,SqL.of (so _ _ eh),SqL.of eo, .inr ⟨_,rfl,?_⟩⟩
 refine⟨_,rfl,_,rfl,a,t,ns,3,_,rfl,dw.sc.keep k6,tp5.same so,by omega,by decide,λe H7 e0 e1 k7 tp7=>?_⟩
 obtain⟨cn,hcn,hcn3⟩:∃cn:Nat,((if xh.isEmpty=true then 1 else 0:Int)+e)=(cn:Int)/\cn<=3:=by
  refine⟨((if xh.isEmpty=true then 1 else 0:Int)+e).toNat,?_,?_⟩ <;> split <;> omega
 refine⟨_,_,rfl,rfl,(cn:Int),congrArg (λz=>[V.int z]) hcn,by omega,by omega,?_⟩
 rw[l34]
 have k67:=k6.trans k7
 have e7:=k7 _ _ hrt (so _ _ e5)
 have n7:=NewQ.keep (n5.same so) dw.tp.ne k7
 refine cF (n:=cn) (λi σ H'=>∃(xs:List V) (ls:List (List (List PC))) (x7:Option V),σ=[some (V.ref a),some (V.ref t),some (V.ref nm),some (V.int many),some (V.ref hb),some (V.ref sb),some (.ref r),x7]/\KeepX t H H'/\Tp t (u+2301+2200 * i) H'/\H' r=some (.lst xs)/\ls.length=i/\(∀l∈ls,CCs l)/\NewQ H [r] H' (λG=>(Dn G (.ref hb) (bF hd)/\Dn G (.ref sb) (dSd sd))/\DnAll G xs (ls.map bF)))
  ⟨[],[],none,rfl,k67,tp7.le (by omega),e7,rfl,(λ_ z=>nomatch z),n7⟩ ?_ ?_
 ·rintro i σ H8 hi ⟨xs,ls,x7,rfl,k8,tp8,e8,hl8,hc8,n8⟩
  have hxl:xs.length=i:=by
   obtain⟨G,_,_,_,_,e⟩:=n8
   rw[e.len,l6,hl8]
  refine⟨_,rfl, .inl ⟨rfl,_,SqL.of e8⟩,_,rfl,_,rfl,_,rfl,_,rfl,a,t,nm,ns,_,_,many,rfl,dw.go k8 tp8 (by omega),by omega,hm1.2,λv cs H9 k9 tp9 hl9 hc9 dc9=>?_⟩
  have e9:=k9 _ _ hrt e8
  refine⟨r,xs, .ref v,rfl,rfl,e9,by rw[hs];omega,?_⟩
  refine⟨xs++[.ref v],ls++[cs],_,rfl,λx o hx e=>?_,?_,aa,by rw[l5,hl8];rfl,λl hl=>?_,?_⟩
  ·exact(af λz=>by rw[z,hrH] at e;cases e).trans ((k8.trans k9) x o hx e)
  ·obtain⟨m',e,m0,m1⟩:=tp9
   exact⟨m',(af (Ne.symm hrt)).trans e,m0,by omega⟩
  ·rcases l18.mp hl with z |z
   ·exact hc8 l z
   ·rw[l20.mp z];exact hc9
  ·rw[l16]
   refine NewQ.upd ?_ l13
   exact NewQ.join (NewQ.keep n8 dw.tp.ne k9) (NewQ.ofK (H3:=H8) (R:=λG=>Dn G (.ref v) (bF cs)) k8 tp8.ne (λb hb=>by rw[l20.mp hb,e8];exact λz=>nomatch z) dc9) (λG G' s h=>⟨⟨h.1.1.same s,h.1.2.same s⟩,h.2.same s⟩) qp λG h1 h2=>⟨h1.1,fY h1.2 h2⟩
 ·rintro σ H8 ⟨xs,ls,x7,rfl,k8,tp8,e8,hl8,hc8,n8⟩
  refine⟨_,rfl,_,rfl,_,rfl,big (show (4:Nat)<=1000000 by decide),λt0 ht0=>?_⟩
  have s9:=ac ht0 (.tup [V.str "table", .ref hb, .ref sb, .ref r])
  have ht0t:t0≠t:=λz=>by rw[z] at ht0;exact tp8.ne ht0
  have mo:Mo λG=>(Dn G (.ref hb) (bF hd)/\Dn G (.ref sb) (dSd sd))/\DnAll G xs (ls.map bF):=λG G' s h=>⟨⟨h.1.1.same s,h.1.2.same s⟩,h.2.same s⟩
  obtain⟨⟨dh9,ds9⟩,da9⟩:=mo _ _ (bm (Same.refl H) s9) (n8.dif mo)
  refine q _ hd sd ls _ (k8.trans (ag s9)) ((tp8.same s9).le (by omega)) ⟨hhd,hsd,by omega,hc8⟩ ?_
  refine .tup (by rw[ar (aB k8 ht0t ht0),aa]) (.cons (dn_k (by decide +kernel)) (.cons dh9 (.cons ds9 (.cons (.lst (by rw[ar hrH];exact s9 _ _ e8) da9 ?_) .nil))))
  rw[da9.len,l6]
  omega
end
def GE:(n:Nat)->En n->Prop
 |0,e=>nomatch e
 |n+1,e=>SPs (EnF.parts e)/\(EnF.within e).length<=2/\∀x∈EnF.within e,GE n x
def cE:Nat->Int
 |0=>0
 |n+1=>2 * cE n+3000
theorem cE_pos:∀n,0<=cE n
 |0=>by decide
 |n+1=>by have:=cE_pos n;show 0<=2 * cE n+3000;omega
section
abbrev sEnts:Stmt:=top 70
theorem scEnts:FnScope ["_law_script","_law_tape","_law_names_here","_law_room","_law_found","_law_k","_law_parts_here","_law_within"] p9 (ad sEnts):=mkS
def m5 (K:PySem.W.Frag)(n:Nat):Sp:=λvs H Q _=>∃(a t nm:Addr) (ns:List Int) (ls:List (List Nat)) (u:Int),vs=[.ref a, .ref t, .ref nm, .int n]/\Drw K a t nm ns ls u H/\u+cE n<=700000000000/\∀r (es:List (En n)) H',KeepX t H H'->Tp t (u+cE n) H'->es.length<=2->(∀e∈es,GE n e)->Dn (dif H H') (.ref r) (.list (es.map (dE n)))->Q (.ref r) H'
theorem qC {m n:Nat}{spI:Sp}(F:Fun K "_law_entries" "_law_entries" sEnts f fd)(T:TxD mg)(D_l_draw:Def P w K mg base 1 "_law_draw" p8 (bG K))(D_l_parts:Def P w K mg base m "_law_parts" p7 (gV K))
  (D_l_entries:Def P w K mg base m "_law_entries" p9 spI)(hI:0 < n->∀vs H Q E,m5 K n vs H Q E->spI vs H Q E):FnOk P w K mg base CX0 (m+2) f fd p9 (m5 K (n+1)):=by
 have sc:=scEnts
 refine F.oks sc λcdv A outer s H vs Q E hr h=>?_
 obtain⟨a,t,nm,ns,ls,u,rfl,dw,hu1,q⟩:=h
 have hs:sizeLine=16777216:=sizeLine_eq
 have hc0:=cE_pos n
 have hu1:u+(2 * cE n+3000)<=700000000000:=hu1
 refine ao (xbc (xset (i:=4) sc.nd rfl (Or.inl rfl) (xlst xa0))
  (xbc (xfor PassesOwn.never rfl (xir1 rfl T.n_range (xac (xop bp xint (xcd D_l_draw hr (xac (xv 0) (xac (xv 1) (xac xint xa0))))) xa0)) (xgn (i:=5) sc.nd rfl (Or.inl rfl))
  (xbc (xset (i:=6) sc.nd rfl (Or.inl rfl) (xcd D_l_parts hr (xac (xv 0) (xac (xv 1) (xac (xv 2) xa0)))))
  (xbc (xset (i:=7) sc.nd rfl (Or.inl rfl) (xlst xa0))
  (xbc (xif (xand (aw hV (xv 3) xint (ai _)) (fv (aw hV (xcd D_l_draw hr (xac (xv 0) (xac (xv 1) (xac xint xa0)))) xint (ai _)))).xt (xb1 (xset (i:=7) sc.nd rfl (Or.inl rfl) (xcd D_l_entries hr (xac (xv 0) (xac (xv 1) (xac (xv 2) (xac (xop im (xv 3) xint) xa0))))))) xb0)
  (xb1 (b8 (xm PySem.F.plainAttrs_list PySem.F.slot_list_append PySem.F.type_list_append aP (xv 4) (xac (xtup (xac (xix aU (xlst (xac xstr (xac xstr xa0))) (xcd D_l_draw hr (xac (xv 0) (xac (xv 1) (xac xint xa0)))) (λ_ _=>rfl)) (xac (xv 6) (xac (xv 7) xa0)))) xa0))))))))
  (xb1 (xret (xv 4))))) ?_
 rw[show aS ["_law_script","_law_tape","_law_names_here","_law_room","_law_found","_law_k","_law_parts_here","_law_within"] [V.ref a,V.ref t,V.ref nm,V.int ((n+1:Nat):Int)]=[some (V.ref a),some (V.ref t),some (V.ref nm),some (V.int ((n+1:Nat):Int)),none,none,none,none] from rfl]
 refine bJ λU0 eU=>?_
 refine⟨big (show (0:Nat)<=1000000 by decide),λr hr0=>?_⟩
 have hrt:r≠t:=λz=>by rw[z] at hr0;exact dw.tp.ne hr0
 have s1:=ac hr0 (.lst [])
 have e1:upd H r (.lst []) r=some (.lst []):=aa
 dsimp only[av,sA,sB]
 refine eU _ _ _ ?_
 generalize upd H r (.lst [])=H1 at s1 e1 ⊢
 have k1:KeepX t H H1:=ag s1
 refine⟨_,rfl,_,rfl,a,t,ns,2,_,rfl,dw.sc.keep k1,dw.tp.same s1,by omega,by decide,λd H2 d0 d1 k2 tp2=>?_⟩
 obtain⟨dn,rfl⟩:∃dn:Nat,d=(dn:Int):=⟨d.toNat,(l38 d0).symm⟩
 refine⟨_,_,rfl,rfl,((1+dn:Nat):Int),rfl,by omega,by omega,?_⟩
 rw[l34]
 have k12:=k1.trans k2
 refine cF (n:=1+dn) (λi σ H'=>∃(xs:List V) (es:List (En (n+1))) (x5 x6 x7:Option V),σ=[some (V.ref a),some (V.ref t),some (V.ref nm),some (V.int ((n+1:Nat):Int)),some (.ref r),x5,x6,x7]/\KeepX t H H'/\Tp t (u+1+(cE n+1000) * i) H'/\H' r=some (.lst xs)/\es.length=i/\(∀e∈es,GE (n+1) e)/\NewQ H [r] H' (λG=>DnAll G xs (es.map (dE (n+1)))))
  ⟨[],[],none,none,none,rfl,k12,tp2.le (by simp),k2 _ _ hrt e1,rfl,(λ_ z=>nomatch z),NewQ.triv .nil⟩ ?_ ?_
 ·rintro i σ H3 hi ⟨xs,es,x5,x6,x7,rfl,k3,tp3,e3,hl3,hg3,n3⟩
  have hxl:xs.length=i:=by
   obtain⟨G,_,_,_,e⟩:=n3
   rw[e.len,l6,hl3]
  have hmul0:0<=(cE n+1000) * i:=l71 (by omega) (by omega)
  have hmul:(cE n+1000) * i<=cE n+1000:=by
   have:i=0 ∨ i=1:=by omega
   rcases this with z |z
   ·rw[z];simp;omega
   ·rw[z];simp
  have hle:u+1+(cE n+1000) * i+(cE n+999)<=700000000000:=by omega
  have hadd:(cE n+1000) * ((i+1:Nat):Int)=(cE n+1000) * i+(cE n+1000):=by
   have:((i+1:Nat):Int)=(i:Nat)+1:=by omega
   rw[this,Int.mul_add,Int.mul_one]
  generalize (cE n+1000) * (i:Int)=mu at hmul hmul0 hle hadd tp3
  refine⟨_,rfl,_,rfl,_,rfl,a,t,nm,ns,ls,_,rfl,dw.go k3 tp3 (by omega),by omega,λpr ps H4 k4 tp4 hps dps=>?_⟩
  dsimp only[av,sA,sB]
  have k34:=k3.trans k4
  refine⟨big (show (0:Nat)<=1000000 by decide),λw0 hw0=>?_⟩
  have s5:=ac hw0 (.lst [])
  have e5:upd H4 w0 (.lst []) w0=some (.lst []):=aa
  have hwt:w0≠t:=λz=>by rw[z] at hw0;exact tp4.ne hw0
  have dw0:Dn (dif H3 (upd H4 w0 (.lst []))) (.ref w0) (.list (([]:List (En n)).map (dE n))) := .lst (by rw[ar (aB k4 hwt hw0),aa]) .nil (by decide)
  dsimp only[av,sA,sB]
  have dps:=dps.same (bm (Same.refl H3) s5)
  generalize upd H4 w0 (.lst [])=H5 at s5 e5 dw0 dps ⊢
  have k45:=k4.trans (ag s5)
  have k35:=k3.trans k45
  have tp5:=tp4.same s5
  refine bt (λσ' H'=>∃(wr:Addr) (ws:List (En n)),σ'=[some (V.ref a),some (V.ref t),some (V.ref nm),some (V.int ((n+1:Nat):Int)),some (.ref r),some (.int (0+(i:Int))),some (.ref pr),some (.ref wr)]/\KeepX t H3 H'/\Tp t (u+1+mu+701+cE n) H'/\ws.length<=2/\(∀x∈ws,GE n x)/\Dn (dif H3 H') (.ref wr) (.list (ws.map (dE n)))/\Dn (dif H3 H') (.ref pr) (.list (ps.map dP))) (λN hN=>?_) ?_
  ·have none_:∀H',KeepX t H5 H'->Tp t (u+1+mu+701) H'->N [some (V.ref a),some (V.ref t),some (V.ref nm),some (V.int ((n+1:Nat):Int)),some (.ref r),some (.int (0+(i:Int))),some (.ref pr),some (.ref w0)] H':=λH' k' tp'=>hN _ _ ⟨w0,[],rfl,k45.trans k',tp'.le (by omega),l14 _,(λ_ z=>nomatch z),dw0.same (cx tp3.ne k'),dps.same (cx tp3.ne k')⟩
   refine⟨_,rfl,_,_,rfl,rfl,_,rfl,?_⟩
   refine ite2 (λc=>?_) (λ_=>iteF (none_ H5 (ag (Same.refl _)) (tp5.le (by omega))))
   have c:(1:Int) < ((n+1:Nat):Int):=of_decide_eq_true c
   refine⟨_,rfl,_,rfl,a,t,ns,5,_,rfl,dw.sc.keep k35,tp5,by omega,by decide,λe H6 e0 e1 k6 tp6=>⟨_,_,rfl,rfl,_,rfl,?_⟩⟩
   refine ite2 (λ_=>?_) (λ_=>none_ H6 k6 (tp6.le (by omega)))
   refine⟨_,rfl,_,rfl,_,rfl,_,rfl,_,_,rfl,rfl,hI (by omega) _ _ _ _ ⟨a,t,nm,ns,ls,_,?_,dw.go (k35.trans k6) tp6 (by omega),by omega,λwr ws H7 k7 tp7 hw7 hg7 dw7=>?_⟩⟩
   ·show [V.ref a,V.ref t,V.ref nm,V.int (((n+1:Nat):Int) - 1)]=_
    rw[show ((n+1:Nat):Int) - 1=(n:Nat) by omega]
   ·exact hN _ _ ⟨wr,ws,rfl,(k45.trans k6).trans k7,tp7.le (by omega),hw7,hg7,dw7.same (bu tp6.ne (k45.trans k6)),dps.same (cx tp3.ne (k6.trans k7))⟩
  rintro σ' H6 ⟨wr,ws,rfl,k6,tp6,hw6,hg6,dw6,dp6⟩
  have e6:=k6 _ _ hrt e3
  refine⟨_,rfl, .inl ⟨rfl,_,SqL.of e6⟩,big (show (2:Nat)<=1000000 by decide),λo ho=>?_⟩
  have so:=ac ho (.lst [V.str "-",V.str "+"])
  have eo:upd H6 o (.lst [V.str "-",V.str "+"]) o=some (.lst [V.str "-",V.str "+"]):=aa
  have hot:o≠t:=λz=>by rw[z] at ho;exact tp6.ne ho
  have k7:=k6.trans (ag so)
  refine⟨_,rfl,_,rfl,a,t,ns,2,_,rfl,dw.sc.keep (k3.trans k7),tp6.same so,by omega,by decide,λe H8 e0 e1 k8 tp8=>?_⟩
  obtain⟨b,hat⟩:∃b:Bool,atI [V.str "-",V.str "+"] e=some (vS (bI b)):=by
   have:e=0 ∨ e=1:=by omega
   rcases this with z |z
   ·exact⟨false,by rw[z];exact aC (j:=0) rfl⟩
   ·exact⟨true,by rw[z];exact aC (j:=1) rfl⟩
  have k78:=k7.trans k8
  have e8:=k78 _ _ hrt e3
  refine⟨o,_,e,vS (bI b),rfl,rfl,SqL.of (k8 _ _ hot eo),hat,_,rfl,_,rfl,big (show (3:Nat)<=1000000 by decide),λT0 hT=>?_⟩
  have sT:=ac hT (.tup [vS (bI b), .ref pr, .ref wr])
  have hTt:T0≠t:=λz=>by rw[z] at hT;exact tp8.ne hT
  have k9:=k78.trans (ag sT)
  have dT:Dn (dif H3 (upd H8 T0 (.tup [vS (bI b), .ref pr, .ref wr]))) (.ref T0) (dE (n+1) ⟨b,ps,ws⟩):=by
   refine .tup (by rw[ar (aB k78 hTt hT),aa]) (.cons ?_ (.cons (dp6.same ?_) (.cons (dw6.same ?_) .nil)))
   ·exact(c8 (l:=bI b) (by cases b <;> exact aI _ rfl) (by cases b <;> decide)).dn
   ·exact cx tp3.ne (((ag so).trans k8).trans (ag sT))
   ·exact cx tp3.ne (((ag so).trans k8).trans (ag sT))
  have tp9:=tp8.same sT
  refine⟨r,xs, .ref T0,rfl,rfl,sT _ _ e8,by rw[hs];omega,?_⟩
  refine⟨xs++[.ref T0],es++[⟨b,ps,ws⟩],_,_,_,rfl,λx o hx e=>?_,?_,aa,by rw[l5,hl3];rfl,λx hx=>?_,?_⟩
  ·exact(af λz=>by rw[z,hr0] at e;cases e).trans ((k3.trans k9) x o hx e)
  ·obtain⟨m',e,m0,m1⟩:=tp9
   exact⟨m',(af (Ne.symm hrt)).trans e,m0,by rw[hadd];omega⟩
  ·rcases l18.mp hx with z |z
   ·exact hg3 x z
   ·rw[l20.mp z];exact⟨hps,hw6,hg6⟩
  ·rw[l16]
   refine NewQ.upd ?_ l13
   exact NewQ.join (NewQ.keep n3 dw.tp.ne k9) (NewQ.ofK (H3:=H3) (R:=λG=>Dn G (.ref T0) (dE (n+1) ⟨b,ps,ws⟩)) k3 tp3.ne (λb hb=>by rw[l20.mp hb,e3];exact λz=>nomatch z) dT) cf qp λG h1 h2=>fY h1 h2
 ·rintro σ H3 ⟨xs,es,x5,x6,x7,rfl,k3,tp3,e3,hl3,hg3,n3⟩
  refine⟨_,rfl,q r es H3 k3 (tp3.le ?_) (by omega) hg3 (.lst (by rw[ar hr0,e3]) (n3.dif cf) (by rw[(n3.dif cf).len,l6];omega))⟩
  show _<=u+(2 * cE n+3000)
  have:dn=0 ∨ dn=1:=by omega
  rcases this with z |z
  ·rw[z];simp;omega
  ·rw[z]
   have:(cE n+1000) * ((1+1:Nat):Int)=2 * cE n+2000:=by
    show (cE n+1000) * 2=_
    omega
   omega
end
def liL:List V:=[V.str "",V.str " ",V.str "x",V.str "> y",V.str "~~~~",V.str " ~~~",V.str "~~~ z",V.str "- a",V.str "  b  ",V.str "= c",V.str "|d|",V.str "\\",V.str ">",V.str "[a]: b",V.str "  "]
def GL (ls:List (List Nat)):Prop:=ls.length<=3/\∀l∈ls,Asc l/\l.length<=100
def dLi (ls:List (List Nat)):PyData := .tuple [.str "literal", .list (ls.map λl => .str (S l))]
theorem dns_vS {G:Hp}:∀{ls:List (List Nat)},(∀l∈ls,Asc l/\l.length<=1000)->DnAll G (ls.map vS) (ls.map λl => .str (S l))
 | [],_ => .nil
 |l::ls,h => .cons (c8 (h l l13).1 (by have:=(h l l13).2;omega)).dn (dns_vS λx hx=>h x (l15 _ hx))
theorem ev_repl {ta:TE}{σ:St}{H:Hp}{a b:List Nat}{y z:Str}(h:Ev ta σ H (vS a))(hl:a.length<=1000000)(e:Txt.replace (S a) y z=S b):Ev (λσ H Q=>ta σ H λx H1=>∃w,x = .str w/\w.length<=1000000/\Q (.str (Txt.replace w y z)) H1) σ H (vS b):=λR r=>h _ ⟨_,rfl,by rw[am];exact hl,by rw[e];exact r⟩
section
abbrev sLit:Stmt:=top 71
theorem scLit:FnScope ["_law_script","_law_tape","_law_some_here","_law_lines","_law_k","_law_line_here","_law_text_here"] p12 (ad sLit):=mkS
def spLit (K:PySem.W.Frag):Sp:=λvs H Q _=>∃(a t:Addr) (ns:List Int) (u:Int),vs=[.ref a, .ref t]/\Scr K t ns a H/\Tp t u H/\u<=700000000000/\∀v ls H',KeepX t H H'->Tp t (u+200) H'->GL ls->Dn (dif H H') v (dLi ls)->Q v H'
theorem ok_lit (F:Fun K "_law_literal" "_law_literal" sLit f fd)(T:TxD mg)(D_l_draw:Def P w K mg base 1 "_law_draw" p8 (bG K))(D_l_text:Def P w K mg base 2 "_law_text" p21 (gR K)):FnOk P w K mg base CX0 3 f fd p12 (spLit K):=by
 have sc:=scLit
 refine F.oks sc λcdv A outer s H vs Q E hr h=>?_
 obtain⟨a,t,ns,u,rfl,hsc,htp,hu1,q⟩:=h
 have hs:sizeLine=16777216:=sizeLine_eq
 refine ao (xbc (xset (i:=2) sc.nd rfl (Or.inl rfl) (xlst (xac xstr (xac xstr (xac xstr (xac xstr (xac xstr (xac xstr (xac xstr (xac xstr (xac xstr (xac xstr (xac xstr (xac xstr (xac xstr (xac xstr (xac xstr xa0)))))))))))))))))
  (xbc (xset (i:=3) sc.nd rfl (Or.inl rfl) (xlst xa0))
  (xbc (xfor PassesOwn.never rfl (xir1 rfl T.n_range (xac (xcd D_l_draw hr (xac (xv 0) (xac (xv 1) (xac xint xa0)))) xa0)) (xgn (i:=4) sc.nd rfl (Or.inl rfl))
  (xbc (xset (i:=5) sc.nd rfl (Or.inl rfl) (xix aU (xv 2) (xcd D_l_draw hr (xac (xv 0) (xac (xv 1) (xac xint xa0)))) (λ_ _=>rfl)))
  (xbc (xif (aw aD (xcd D_l_draw hr (xac (xv 0) (xac (xv 1) (xac xint xa0)))) xint (ai _)) (xbc (xset (i:=6) sc.nd rfl (Or.inl rfl) (xcd D_l_text hr (xac (xv 0) (xac (xv 1) (xac (xcd D_l_draw hr (xac (xv 0) (xac (xv 1) (xac xint xa0)))) (xac xbl xa0))))))
  (xb1 (xset (i:=5) sc.nd rfl (Or.inl rfl) (oZ (xop ae (xv 6) xstr) (by decide +kernel) (by decide +kernel))))) xb0)
  (xb1 (b8 (xm PySem.F.plainAttrs_list PySem.F.slot_list_append PySem.F.type_list_append aP (xv 3) (xac (xv 5) xa0)))))))
  (xb1 (xret (xtup (xac xstr (xac (xv 3) xa0)))))))) ?_
 rw[show aS ["_law_script","_law_tape","_law_some_here","_law_lines","_law_k","_law_line_here","_law_text_here"] [V.ref a,V.ref t]=[some (V.ref a),some (V.ref t),none,none,none,none,none] from rfl]
 refine bJ λU0 eU=>?_
 refine⟨big (show (15:Nat)<=1000000 by decide),λLs hLs=>?_⟩
 have s1:=ac hLs (.lst liL)
 have eL:upd H Ls (.lst liL) Ls=some (.lst liL):=aa
 have hLt:Ls≠t:=λz=>by rw[z] at hLs;exact htp.ne hLs
 show tSeq _ _ _ _ (upd H Ls (.lst liL))
 generalize upd H Ls (.lst liL)=H1 at s1 eL ⊢
 dsimp only[av,sA,sB]
 refine eU _ _ _ ?_
 refine⟨big (show (0:Nat)<=1000000 by decide),λr hr0=>?_⟩
 have htp1:=htp.same s1
 have hrt:r≠t:=λz=>by rw[z] at hr0;exact htp1.ne hr0
 have hrL:r≠Ls:=λz=>by rw[z,eL] at hr0;cases hr0
 have s2:=ac hr0 (.lst [])
 have e2:upd H1 r (.lst []) r=some (.lst []):=aa
 dsimp only[av,sA,sB]
 generalize upd H1 r (.lst [])=H2 at s2 e2 ⊢
 have k2:KeepX t H H2:=ag (s1.trans s2)
 have eL2:=s2 _ _ eL
 refine⟨_,rfl,_,rfl,a,t,ns,4,_,rfl,hsc.keep k2,htp1.same s2,by omega,by decide,λd H3 d0 d1 k3 tp3=>?_⟩
 obtain⟨dn,rfl⟩:∃dn:Nat,d=(dn:Int):=⟨d.toNat,(l38 d0).symm⟩
 refine⟨_,rfl,by omega,by omega,?_⟩
 rw[l34]
 refine cF (n:=dn) (λi σ H'=>∃(ls:List (List Nat)) (x4 x5 x6:Option V),σ=[some (V.ref a),some (V.ref t),some (V.ref Ls),some (.ref r),x4,x5,x6]/\KeepX t H H'/\H' Ls=some (.lst liL)/\Tp t (u+1+50 * i) H'/\H' r=some (.lst (ls.map vS))/\ls.length=i/\∀l∈ls,Asc l/\l.length<=100)
  ⟨[],none,none,none,rfl,k2.trans k3,k3 _ _ hLt eL2,tp3.le (by simp),k3 _ _ hrt e2,rfl,(λ_ z=>nomatch z)⟩ ?_ ?_
 ·rintro i σ H4 hi ⟨ls,x4,x5,x6,rfl,k4,eL4,tp4,e4,hl4,ho4⟩
  refine⟨_,rfl,_,rfl,_,rfl,a,t,ns,15,_,rfl,hsc.keep k4,tp4,by omega,by decide,λe H5 e0 e1 k5 tp5=>?_⟩
  obtain⟨st,hst,has,hls⟩:=at_ok (xs:=liL) (n:=6) (m:=15) (by decide +kernel) rfl e0 e1
  refine⟨Ls,liL,e,vS st,rfl,rfl,SqL.of (k5 _ _ hLt eL4),hst,?_⟩
  dsimp only[av,sA,sB]
  refine bt (λσ' H'=>∃(l:List Nat) (x6:Option V),σ'=[some (V.ref a),some (V.ref t),some (V.ref Ls),some (.ref r),some (.int (0+(i:Int))),some (vS l),x6]/\Asc l/\l.length<=100/\KeepX t H4 H'/\Tp t (u+1+50 * i+50) H') (λN hN=>?_) ?_
  ·refine⟨_,rfl,_,rfl,a,t,ns,3,_,rfl,hsc.keep (k4.trans k5),tp5,by omega,by decide,λc H6 c0 c1 k6 tp6=>⟨rfl,_,rfl,?_⟩⟩
   refine ite2 (λ_=>?_) (λ_=>hN _ _ ⟨st,_,rfl,has,by omega,k5.trans k6,tp6.le (by omega)⟩)
   have k46:=(k4.trans k5).trans k6
   refine⟨_,rfl,_,rfl,_,rfl,_,rfl,a,t,ns,7,_,rfl,hsc.keep k46,tp6,by omega,by decide,λz H7 z0 z1 k7 tp7=>?_⟩
   refine⟨a,t,ns,z,_,false,rfl,hsc.keep (k46.trans k7),tp7,by omega,by omega,by omega,λl H8 hl ha k8 tp8=>?_⟩
   dsimp only[av,sA,sB]
   have hl6:l.length<=6:=by omega
   obtain⟨l2,e2,m2,n2⟩:=jj (l++[32]) [126,126,126,32] [126,126,126,120]
   have hl2:Asc l2:=λc hc=>by
    rcases m2 c hc with z |z
    ·exact ay ha (aI _ rfl) c z
    ·exact aI [126,126,126,120] rfl c z
   have hd:l2.length<=100:=by
    have h1:(l++[32]).length<=7:=by rw[l5];show _+1<=_;omega
    have h2:((l++[32]).length+1) * 4<=8 * 4:=l53 _ (by omega)
    have h3:l2.length<=(l++[32]).length+((l++[32]).length+1) * 4:=n2
    omega
   exact kA (ev_repl (aH (ev_v (v:=vS l) rfl) (aN (b:=[32]) rfl) (by show _+1<=_;omega)) (by rw[l5];show _+1<=_;omega) e2) (hN _ _ ⟨l2,_,rfl,hl2,hd,((k5.trans k6).trans k7).trans k8,tp8.le (by omega)⟩)
  rintro σ' H6 ⟨l,x6,rfl,ha,hl,k6,tp6⟩
  have e6:=k6 _ _ hrt e4
  refine⟨_,rfl, .inl ⟨rfl,_,SqL.of e6⟩,_,rfl,r,_,vS l,rfl,rfl,e6,by rw[hs,l6];omega,?_⟩
  have hrH:H r=none:=s1.free hr0
  refine⟨ls++[l],_,_,_,rfl,λx o hx e=>?_,?_,?_,?_,by rw[l5,hl4];rfl,λx hx=>?_⟩
  ·exact(af λz=>by rw[z,hrH] at e;cases e).trans ((k4.trans k6) x o hx e)
  ·exact(af (Ne.symm hrL)).trans (k6 _ _ hLt eL4)
  ·obtain⟨m',e,m0,m1⟩:=tp6
   exact⟨m',(af (Ne.symm hrt)).trans e,m0,by omega⟩
  ·rw[l16];exact aa
  ·rcases l18.mp hx with z |z
   ·exact ho4 x z
   ·rw[l20.mp z];exact⟨ha,hl⟩
 ·rintro σ H4 ⟨ls,x4,x5,x6,rfl,k4,eL4,tp4,e4,hl4,ho4⟩
  refine⟨_,rfl,big (show (2:Nat)<=1000000 by decide),λt0 ht0=>?_⟩
  have s9:=ac ht0 (.tup [V.str "literal", .ref r])
  have ht0t:t0≠t:=λz=>by rw[z] at ht0;exact tp4.ne ht0
  have hrH:H r=none:=s1.free hr0
  refine q _ ls _ (k4.trans (ag s9)) ((tp4.same s9).le (by omega)) ⟨by omega,ho4⟩ ?_
  refine .tup (by rw[ar (aB k4 ht0t ht0),aa]) (.cons (dn_k (by decide +kernel)) (.cons (.lst (by rw[ar hrH];exact s9 _ _ e4) (dns_vS λl hl=>⟨(ho4 l hl).1,l10 (ho4 l hl).2 (by decide)⟩) ?_) .nil))
  rw[l6]
  omega
end
def GBF {β:Type}(ok:β->Prop):BkF β->Prop
 | .heading n ps=>n<=3/\SPs ps
 | .para ps=>SPs ps
 | .lst es=>es.length<=2/\∀e∈es,GE 6 e
 | .table hd sd ls=>TbOk hd sd ls
 | .lit ls=>GL ls
 | .quote bs=>bs.length<=2/\∀b∈bs,ok b
 | .name n t=>NmOk n/\Asc t/\t.length<=100
 | .note n ps=>NmOk n/\SPs ps
def GB:(n:Nat)->Bl n->Prop
 |0,b=>GBF (λz:Empty=>nomatch z) b
 |n+1,b=>GBF (GB n) b
section
abbrev qD:Stmt:=top 72
theorem scBlock:FnScope ["_law_script","_law_tape","_law_names_here","_law_room","_law_kind","_law_target"] p9 (ad qD):=mkS
def jk (K:PySem.W.Frag){β:Type}(g:β->PyData)(ok:β->Prop)(rm:Nat)(c:Int):Sp:=λvs H Q _=>∃(a t nm:Addr) (ns:List Int) (ls:List (List Nat)) (u:Int),vs=[.ref a, .ref t, .ref nm, .int rm]/\Drw K a t nm ns ls u H/\u+c<=600000000000/\∀v (b:β) H',KeepX t H H'->Tp t (u+c) H'->ok b->Dn (dif H H') v (g b)->Q v H'
def dk (K:PySem.W.Frag){β:Type}(g:β->PyData)(ok:β->Prop)(rm:Nat)(c:Int):Sp:=λvs H Q _=>∃(a t nm:Addr) (ns:List Int) (ls:List (List Nat)) (u:Int) (many:Nat),vs=[.ref a, .ref t, .ref nm, .int rm, .int many]/\Drw K a t nm ns ls u H/\u+c * many<=600000000000/\many<=3/\∀r (bs:List β) H',KeepX t H H'->Tp t (u+c * many) H'->bs.length=many->(∀b∈bs,ok b)->Dn (dif H H') (.ref r) (.list (bs.map g))->Q (.ref r) H'
theorem m6 {m:Nat}{spI:Sp}{β:Type}{g:β->PyData}{ok:β->Prop}{rm:Nat}{c:Int}(hc:0<=c)(F:Fun K "_law_block" "_law_block" qD f fd)(T:TxD mg)(hm:3<=m)(D_l_draw:Def P w K mg base 1 "_law_draw" p8 (bG K))(D_l_text:Def P w K mg base 2 "_law_text" p21 (gR K))(D_l_parts:Def P w K mg base m "_law_parts" p7 (gV K))(D_l_entries:Def P w K mg base m "_law_entries" p9 (m5 K 6))
  (D_l_table:Def P w K mg base m "_law_table" p7 (md K))(D_l_literal:Def P w K mg base 3 "_law_literal" p12 (spLit K))(D_l_blocks:Def P w K mg base m "_law_blocks" p13 spI)(hI:0 < rm->∀vs H Q E,dk K g ok (rm - 1) c vs H Q E->spI vs H Q E):FnOk P w K mg base CX0 (m+2) f fd p9 (jk K (dBF g) (GBF ok) rm (2 * c+200000)):=by
 have sc:=scBlock
 refine F.oks sc λcdv A outer s H vs Q E hr h=>?_
 obtain⟨a,t,nm,ns,ls,u,rfl,dw,hu1,q⟩:=h
 have hs:sizeLine=16777216:=sizeLine_eq
 refine ao (xbc (xset (i:=4) sc.nd rfl (Or.inl rfl) (xcd D_l_draw hr (xac (xv 0) (xac (xv 1) (xac xint xa0)))))
  (xbc (xif (aw aD (xv 4) xint (ai _)) (xb1 (xret (xtup (xac xstr (xac (xop bp xint (xcd D_l_draw hr (xac (xv 0) (xac (xv 1) (xac xint xa0))))) (xac (xcd D_l_parts hr (xac (xv 0) (xac (xv 1) (xac (xv 2) xa0)))) xa0)))))) xb0)
  (xbc (xif (aw aD (xv 4) xint (ai _)) (xb1 (xret (xtup (xac xstr (xac (xcd D_l_entries hr (xac (xv 0) (xac (xv 1) (xac (xv 2) (xac xint xa0))))) xa0))))) xb0)
  (xbc (xif (aw aD (xv 4) xint (ai _)) (xb1 (xret (xcd D_l_table hr (xac (xv 0) (xac (xv 1) (xac (xv 2) xa0)))))) xb0)
  (xbc (xif (aw aD (xv 4) xint (ai _)) (xb1 (xret (xcd D_l_literal hr (xac (xv 0) (xac (xv 1) xa0))))) xb0)
  (xbc (xif (xand (aw aD (xv 4) xint (ai _)) (fv (aw hV (xv 3) xint (ai _)))).xt (xb1 (xret (xtup (xac xstr (xac (xcd D_l_blocks hr (xac (xv 0) (xac (xv 1) (xac (xv 2) (xac (xop im (xv 3) xint) (xac (xcd D_l_draw hr (xac (xv 0) (xac (xv 1) (xac xint xa0)))) xa0)))))) xa0))))) xb0)
  (xbc (xif (aw aD (xv 4) xint (ai _)) (xbc (xset (i:=5) sc.nd rfl (Or.inl rfl) (oZ (xcd D_l_text hr (xac (xv 0) (xac (xv 1) (xac (xop bp xint (xcd D_l_draw hr (xac (xv 0) (xac (xv 1) (xac xint xa0))))) (xac xbl xa0))))) (by decide +kernel) (by decide +kernel)))
  (xb1 (xret (xtup (xac xstr (xac (xix aU (xv 2) (xcd D_l_draw hr (xac (xv 0) (xac (xv 1) (xac xint xa0)))) (λ_ _=>rfl)) (xac (xorS (xv 5) (xone xstr)) xa0))))))) xb0)
  (xbc (xif (aw aD (xv 4) xint (ai _)) (xb1 (xret (xtup (xac xstr (xac (xix aU (xv 2) (xcd D_l_draw hr (xac (xv 0) (xac (xv 1) (xac xint xa0)))) (λ_ _=>rfl)) (xac (xcd D_l_parts hr (xac (xv 0) (xac (xv 1) (xac (xv 2) xa0)))) xa0)))))) xb0)
  (xb1 (xret (xtup (xac xstr (xac (xcd D_l_parts hr (xac (xv 0) (xac (xv 1) (xac (xv 2) xa0)))) xa0))))))))))))) ?_
 rw[show aS ["_law_script","_law_tape","_law_names_here","_law_room","_law_kind","_law_target"] [V.ref a,V.ref t,V.ref nm,V.int rm]=[some (V.ref a),some (V.ref t),some (V.ref nm),some (V.int rm),none,none] from rfl]
 refine bJ λU0 eU=>?_
 refine⟨_,rfl,_,rfl,a,t,ns,9,u,rfl,dw.sc,dw.tp,by omega,by decide,λkd H1 kd0 kd1 k1 tp1=>?_⟩
 dsimp only[av,sA,sB]
 refine eU _ _ _ ?_
 have fin:∀{b:BkF β} {xs:List V} {ds:List PyData} {H2:Hp},dBF g b = .tuple ds->KeepX t H H2->Tp t (u+(2 * c+200000)) H2->GBF ok b->DnAll (dif H H2) xs ds->∀t0,H2 t0=none->Q (.ref t0) (upd H2 t0 (.tup xs)):=λ{b xs ds H2} e k2 tp2 hb da t0 ht0=>by
  have sn:=ac ht0 (.tup xs)
  refine q _ b _ (k2.trans (ag sn)) (tp2.same sn) hb ?_
  rw[e]
  have hne:t0≠t:=λz=>by rw[z] at ht0;exact tp2.ne ht0
  exact .tup (by rw[ar (aB k2 hne ht0),aa]) (da.same (bm (Same.refl _) sn))
 refine s_if _ (λR k=>⟨_,rfl,rfl,_,rfl,k _ (Same.refl _)⟩) (λH2 s2 _=>?_) λH2 s2 _=>?_
 ·have k2:=k1.trans (ag s2)
  refine⟨_,rfl,_,rfl,a,t,ns,3,_,rfl,dw.sc.keep k2,tp1.same s2,by omega,by decide,λd H3 d0 d1 k3 tp3=>⟨_,_,rfl,rfl,?_⟩⟩
  have k23:=k2.trans k3
  obtain⟨dn,rfl⟩:∃dn:Nat,d=(dn:Int):=⟨d.toNat,(l38 d0).symm⟩
  refine⟨_,rfl,_,rfl,_,rfl,a,t,nm,ns,ls,_,rfl,dw.go k23 tp3 (by omega),by omega,λpr ps H4 k4 tp4 hps dps=>⟨big (show (3:Nat)<=1000000 by decide),?_⟩⟩
  exact fin (b := .heading (1+dn) ps) rfl (k23.trans k4) (tp4.le (by omega)) ⟨by omega,hps⟩ (.cons (dn_k (by decide +kernel)) (.cons (.int ((1+dn:Nat):Int)) (.cons (dps.same (bu tp3.ne k23)) .nil)))
 dsimp only[a9]
 have k2:=k1.trans (ag s2)
 have tp2:=tp1.same s2
 clear s2
 refine s_if _ (λR k=>⟨_,rfl,rfl,_,rfl,k _ (Same.refl _)⟩) (λH3 s3 _=>?_) λH3 s3 _=>?_
 ·have k3:=k2.trans (ag s3)
  have c6:cE 6=189000:=by decide
  refine⟨_,rfl,_,rfl,_,rfl,a,t,nm,ns,ls,_,rfl,dw.go k3 (tp2.same s3) (by omega),by omega,λer es H4 k4 tp4 hel heg des=>⟨big (show (2:Nat)<=1000000 by decide),?_⟩⟩
  exact fin (b := .lst es) rfl (k3.trans k4) (tp4.le (by omega)) ⟨hel,heg⟩ (.cons (dn_k (by decide +kernel)) (.cons (des.same (bu (tp2.same s3).ne k3)) .nil))
 dsimp only[a9]
 have k3:=k2.trans (ag s3)
 have tp3:=tp2.same s3
 clear s3
 refine s_if _ (λR k=>⟨_,rfl,rfl,_,rfl,k _ (Same.refl _)⟩) (λH4 s4 _=>?_) λH4 s4 _=>?_
 ·have k4:=k3.trans (ag s4)
  exact⟨_,rfl,_,rfl,_,rfl,a,t,nm,ns,ls,_,rfl,dw.go k4 (tp3.same s4) (by omega),by omega,λv hd sd ls H5 k5 tp5 hok dv=>q v (.table hd sd ls) H5 (k4.trans k5) (tp5.le (by omega)) hok (dv.same (bu (tp3.same s4).ne k4))⟩
 dsimp only[a9]
 have k4:=k3.trans (ag s4)
 have tp4:=tp3.same s4
 clear s4
 refine s_if _ (λR k=>⟨_,rfl,rfl,_,rfl,k _ (Same.refl _)⟩) (λH5 s5 _=>?_) λH5 s5 _=>?_
 ·have k5:=k4.trans (ag s5)
  exact⟨_,rfl,_,rfl,a,t,ns,_,rfl,dw.sc.keep k5,tp4.same s5,by omega,λv ls H6 k6 tp6 hok dv=>q v (.lit ls) H6 (k5.trans k6) (tp6.le (by omega)) hok (dv.same (bu (tp4.same s5).ne k5))⟩
 dsimp only[a9]
 have k5:=k4.trans (ag s5)
 have tp5:=tp4.same s5
 clear s5
 refine s_if _ (iU (decide (V.int kd=V.int 4)) (decide ((0:Int) < (rm:Int))) (λR k=>⟨_,rfl,rfl,_,rfl,k _ (Same.refl _)⟩) λ_ H2 s2 R k=>⟨_,rfl,_,_,rfl,rfl,_,rfl,k _ (Same.refl _)⟩) (λH6 s6 z=>?_) λH6 s6 _=>?_
 ·have k6:=k5.trans (ag s6)
  have hrm:(0:Int) < (rm:Int):=of_decide_eq_true (Bool.and_eq_true_iff.mp z).2
  refine⟨_,rfl,_,rfl,_,rfl,_,rfl,_,_,rfl,rfl,_,rfl,_,rfl,a,t,ns,3,_,rfl,dw.sc.keep k6,tp5.same s6,by omega,by decide,λd H7 d0 d1 k7 tp7=>?_⟩
  obtain⟨dn,rfl⟩:∃dn:Nat,d=(dn:Int):=⟨d.toNat,(l38 d0).symm⟩
  have k67:=k6.trans k7
  have hcm:c * (dn:Int)<=2 * c:=by rw[Int.mul_comm 2 c];exact Int.mul_le_mul_of_nonneg_left (by omega) hc
  have hcm0:0<=c * (dn:Int):=l71 hc (by omega)
  refine hI (by omega) _ _ _ _ ⟨a,t,nm,ns,ls,_,dn,?_,dw.go k67 tp7 (by omega),by omega,by omega,λbr bs H8 k8 tp8 hbl hbo dbs=>⟨big (show (2:Nat)<=1000000 by decide),?_⟩⟩
  ·show [V.ref a,V.ref t,V.ref nm,V.int ((rm:Int) - 1),V.int dn]=_
   rw[show (rm:Int) - 1=((rm - 1:Nat):Int) by omega]
  ·exact fin (b := .quote bs) rfl (k67.trans k8) (tp8.le (by omega)) ⟨by omega,hbo⟩ (.cons (dn_k (by decide +kernel)) (.cons (dbs.same (bu tp7.ne k67)) .nil))
 dsimp only[a9]
 have k6:=k5.trans (ag s6)
 have tp6:=tp5.same s6
 clear s6
 refine s_if _ (λR k=>⟨_,rfl,rfl,_,rfl,k _ (Same.refl _)⟩) (λH7 s7 _=>?_) λH7 s7 _=>?_
 ·have k7:=k6.trans (ag s7)
  refine⟨_,rfl,_,rfl,_,rfl,_,rfl,a,t,ns,6,_,rfl,dw.sc.keep k7,tp6.same s7,by omega,by decide,λd H8 d0 d1 k8 tp8=>⟨_,_,rfl,rfl,a,t,ns,1+d,_,false,rfl,dw.sc.keep (k7.trans k8),tp8,by omega,by omega,by omega,λl H9 hl ha k9 tp9=>?_⟩⟩
  have hl6:l.length<=6:=by omega
  obtain⟨l2,e2,m2,n2⟩:=jj l [32] []
  have hl2:Asc l2:=λc hc=>(m2 c hc).elim (ha c) λz=>nomatch z
  have n2:l2.length<=l.length+(l.length+1) * 0:=n2
  refine⟨_,rfl,by rw[am];omega,?_⟩
  rw[show Txt.replace (S l) " " ""=S l2 from e2]
  dsimp only[av,sA,sB]
  have k79:=(k7.trans k8).trans k9
  refine⟨_,rfl,_,rfl,_,rfl,a,t,ns,5,_,rfl,dw.sc.keep k79,tp9,by omega,by decide,λn H10 n0 n1 k10 tp10=>(dw.nms.keep (k79.trans k10)).ix n0 n1 λnl hnl=>?_⟩
  have fin2:∀l3:List Nat,Asc l3->l3.length<=100->∀t0,H10 t0=none->Q (.ref t0) (upd H10 t0 (.tup [V.str "name",vS nl,vS l3])):=λl3 h1 h2=>fin (b := .name nl l3) rfl (k79.trans k10) (tp10.le (by omega)) ⟨hnl,h1,h2⟩ (.cons (dn_k (by decide +kernel)) (.cons (c8 hnl.1 (by have:=hnl.2;omega)).dn (.cons (c8 h1 (by omega)).dn .nil)))
  refine⟨_,rfl,_,rfl,by rw[am,hs];omega,?_⟩
  split
  ·exact⟨big (show (3:Nat)<=1000000 by decide),fin2 [116] (aI _ rfl) (by decide)⟩
  ·exact⟨big (show (3:Nat)<=1000000 by decide),fin2 l2 hl2 (by omega)⟩
 dsimp only[a9]
 have k7:=k6.trans (ag s7)
 have tp7:=tp6.same s7
 clear s7
 refine s_if _ (λR k=>⟨_,rfl,rfl,_,rfl,k _ (Same.refl _)⟩) (λH8 s8 _=>?_) λH8 s8 _=>?_
 ·have k8:=k7.trans (ag s8)
  refine⟨_,rfl,_,rfl,_,rfl,a,t,ns,5,_,rfl,dw.sc.keep k8,tp7.same s8,by omega,by decide,λn H9 n0 n1 k9 tp9=>(dw.nms.keep (k8.trans k9)).ix n0 n1 λnl hnl=>?_⟩
  have k89:=k8.trans k9
  refine⟨_,rfl,_,rfl,_,rfl,a,t,nm,ns,ls,_,rfl,dw.go k89 tp9 (by omega),by omega,λpr ps H10 k10 tp10 hps dps=>⟨big (show (3:Nat)<=1000000 by decide),?_⟩⟩
  exact fin (b := .note nl ps) rfl (k89.trans k10) (tp10.le (by omega)) ⟨hnl,hps⟩ (.cons (dn_k (by decide +kernel)) (.cons (c8 hnl.1 (by have:=hnl.2;omega)).dn (.cons (dps.same (bu tp9.ne k89)) .nil)))
 ·have k8:=k7.trans (ag s8)
  refine⟨_,rfl,_,rfl,_,rfl,a,t,nm,ns,ls,_,rfl,dw.go k8 (tp7.same s8) (by omega),by omega,λpr ps H10 k10 tp10 hps dps=>⟨big (show (2:Nat)<=1000000 by decide),?_⟩⟩
  exact fin (b := .para ps) rfl (k8.trans k10) (tp10.le (by omega)) hps (.cons (dn_k (by decide +kernel)) (.cons (dps.same (bu (tp7.same s8).ne k8)) .nil))
abbrev me:Stmt:=top 73
theorem scBlocks:FnScope p13 p13 (ad me):=mkS
theorem kD {m:Nat}{β:Type}{g:β->PyData}{ok:β->Prop}{rm:Nat}{c:Int}(hc:0<=c)(F:Fun K "_law_blocks" "_law_blocks" me f fd)(T:TxD mg)(D_l_block:Def P w K mg base m "_law_block" p9 (jk K g ok rm c)):FnOk P w K mg base CX0 (m+2) f fd p13 (dk K g ok rm c):=by
 have sc:=scBlocks
 refine F.oks sc λcdv A outer s H vs Q E hr h=>?_
 obtain⟨a,t,nm,ns,ls,u,many,rfl,dw,hu1,hm3,q⟩:=h
 have hs:sizeLine=16777216:=sizeLine_eq
 refine ao (xb1 (xret (xlc (cl:=[("_law_tape",s.heap.objs.size+2),("_law_script",s.heap.objs.size+1),("_law_room",s.heap.objs.size+4),("_law_names_here",s.heap.objs.size+3)]) (own:=["_law_k"]) (fr:=[0,1,2,3]) (N':=["_law_k","_law_script","_law_tape","_law_names_here","_law_room"]) rfl (bw (xs:=p9) ⟨rfl,⟨rfl,⟨rfl,⟨rfl,trivial⟩⟩⟩⟩ ⟨rfl,rfl, .inl rfl, .inl rfl,⟨rfl,rfl, .inl rfl, .inl rfl,⟨rfl,rfl, .inl rfl, .inl rfl,⟨rfl,rfl, .inl rfl, .inl rfl,trivial⟩⟩⟩⟩ (by decide +kernel)) (by decide +kernel) (by decide +kernel) (by with_unfolding_all rfl)
  (xir1 rfl T.n_range (xac (xv 4) xa0))
  (λ_ _ _ _=>xgn (i:=0) (show (["_law_k","_law_script","_law_tape","_law_names_here","_law_room"]:List Str).Nodup by decide +kernel) rfl (Or.inl rfl)) (λ_ _ _ _=>xq0) (λ_ _ _ _=>(xcd D_l_block hr (xac (xv 1) (xac (xv 2) (xac (xv 3) (xac (xv 4) xa0))))))))) ?_
 rw[show aS p13 [V.ref a,V.ref t,V.ref nm,V.int rm,V.int many]=[some (V.ref a),some (V.ref t),some (V.ref nm),some (V.int rm),some (V.int many)] from rfl]
 refine⟨_,rfl,_,rfl,by omega,by omega,?_⟩
 rw[l34]
 refine lY (α:=β) t u c g ok (by omega) dw.tp ?_ ?_
 ·intro i hi H1 k1 tp1 C N hC
  have hle:u+c * (i:Int)+c<=600000000000:=by
   have h1:c * ((i:Int)+1)<=c * (many:Int):=Int.mul_le_mul_of_nonneg_left (by omega) hc
   rw[Int.mul_add,Int.mul_one] at h1
   omega
  have h0:0<=c * (i:Int):=l71 hc (by omega)
  refine⟨(nfLe.refl _ _ _).set (by decide) _,iteT (B:=N H1) ⟨_,rfl,_,rfl,_,rfl,_,rfl,a,t,nm,ns,ls,_,rfl,dw.go k1 tp1 (by omega),by omega,λv b H2 k2 tp2 hb dv=>hC v b H2 k2 tp2 hb dv⟩⟩
 ·intro D H1 ys bs hD k1 tp1 e1 hl hok hn
  refine q D bs H1 k1 tp1 hl hok ?_
  exact .lst (by rw[ar hD,e1]) (hn.dif cf) (by rw[(hn.dif cf).len,l6];omega)
end
theorem kF (l:List Nat)(c:Nat):decide (S (cutL l none (some 1))=S [c])=decide (l.head? = some c):=by
 have e:cutL l none (some 1)=l.take 1:=cut_to l 1
 rw[e]
 refine decide_eq_decide.mpr ⟨λh=>?_,λh=>?_⟩
 ·have h:l.take 1=[c]:=by have:=congrArg (λx:Str=>x.cps.toList) h;simpa using this
  cases l with
  |nil=>cases h
  |cons x l=>cases h;rfl
 ·cases l with
  |nil=>cases h
  |cons x l=>cases h;rfl
theorem ev_bsl1 {σ:St}{H:Hp}{tb:TE}{b:Bool}(h:Ev tb σ H (.bl b)):Ev (tOp (λx y H Q=>∃z n,x = .str z/\y = .int n/\z.length=1/\0<=n/\n<=1000/\Q (.str (Txt.mul z n)) H) (tC (.str "\\")) (tCB (λxs H Q=>(∃i,xs=[.int i]/\Q (.int i) H) ∨ ∃k,xs=[.bl k]/\Q (.int (if k=true then 1 else 0)) H) (aE tb tNil))) σ H (vS (bsl b)):=λR r=>
 h _ (.inr ⟨b,rfl,_,_,rfl,rfl,by decide,by cases b <;> decide,by cases b <;> decide,by
  cases b
  ·exact(congrArg (λz=>R (V.str z) H) (iY 92 0)).mpr r
  ·exact(congrArg (λz=>R (V.str z) H) (iY 92 1)).mpr r⟩)
theorem s_catC {ta tx:TE}{a:List Nat}{x:V}{sp:Sp}{i:Nat}{u:TS}{D:Ends}{σ:St}{H:Hp}(h1:Ev ta σ H (vS a))(hx:Ev tx σ H x)(h2:sp [x] H (λy H2=>∃i' j,vS a = .str i'/\y = .str j/\i'.length+j.length<=sizeLine/\u D (σ.set i (some (.str (i'++j)))) H2) E0):tSeq (tAsg (tOp (λx y H Q=>∃i j,x = .str i/\y = .str j/\i.length+j.length<=sizeLine/\Q (.str (i++j)) H) ta (cG sp [] E0 (aE tx tNil))) (av i)) u D σ H:=h1 _ (hx _ h2)
section
abbrev jl:Stmt:=top 74
theorem qE:FnScope ["_law_text_here","_law_found","_law_sign"] ["_law_text_here"] (ad jl):=mkS
def gW:Sp:=λvs H Q _=>∃l:List Nat,vs=[vS l]/\l.length<=100000/\∀H',Same H H'->Q (vS (aR l)) H'
theorem oz (F:Fun K "_law_back" "_law_back" jl f fd):FnOk P w K mg base CX0 1 f fd ["_law_text_here"] gW:=by
 have sc:=qE
 refine F.oks sc λcdv A outer s H vs Q E hr h=>?_
 obtain⟨l,rfl,hl,q⟩:=h
 refine ao (xbc (xset (i:=1) sc.nd rfl (Or.inl rfl) xstr)
  (xbc (xfor PassesOwn.never rfl (xis (xv 0)) (xgn (i:=2) sc.nd rfl (Or.inl rfl))
  (xbc (xif (aw f8 (xv 2) xstr (by with_unfolding_all rfl)) (xb1 (xset (i:=1) sc.nd rfl (Or.inl rfl) (xop ae (xv 1) xstr))) xb0)
  (xb1 (xset (i:=1) sc.nd rfl (Or.inl rfl) (xop ae (xv 1) (xv 2))))))
  (xb1 (xret (xv 1))))) ?_
 rw[show aS ["_law_text_here","_law_found","_law_sign"] [vS l]=[some (vS l),none,none] from rfl]
 refine c9 ?_
 dsimp only[sA,sB]
 refine⟨_,rfl,_,rfl,?_⟩
 refine pE (z:=S l) (λi σ H'=>∃x2,σ=[some (vS l),some (vS (aR (l.take i))),x2]/\Same H H') ⟨none,rfl,Same.refl _⟩ ?_ ?_
 ·rintro i c σ H3 hc ⟨x2,rfl,s3⟩
  rw[ek] at hc
  have htk:aR (l.take (i+1))=aR (l.take i)++grd c:=by
   rw[l42,hc]
   unfold aR
   simp
  have h1:=gH (l.take i)
  have h2:(l.take i).length<=l.length:=by rw[l33];omega
  rw[htk]
  generalize aR (l.take i)=fd0 at h1 ⊢
  dsimp only[av,sA,sB]
  refine s_if (escC.contains c) (λR k=>⟨_,rfl,_,_,rfl,rfl,_,rfl,?_⟩) (λH4 s4 z=>?_) λH4 s4 z=>?_
  ·rw[show (!(Builtin.Str.occurrences (Str.ofString "\\*`[]") (S [c]) 0 (Str.ofString "\\*`[]").length 1).isEmpty)=escC.contains c from fA escC c]
   exact k _ (Same.refl _)
  ·refine aH (a:=fd0) (b:=[92]) (ev_v rfl) (aN rfl) (by show _+1<=_;omega) _ ?_
   dsimp only[av,sA,sB]
   refine aH (a:=fd0++[92]) (b:=[c]) (ev_v rfl) (ev_v rfl) (by rw[l5];show _+1+1<=_;omega) _ ⟨some (vS [c]),?_,s3.trans s4⟩
   unfold grd
   rw[if_pos z,l24]
   rfl
  ·unfold a9
   dsimp only
   refine aH (a:=fd0) (b:=[c]) (ev_v rfl) (ev_v rfl) (by show _+1<=_;omega) _ ⟨some (vS [c]),?_,s3.trans s4⟩
   unfold grd
   rw[if_neg (by rw[z];exact Bool.false_ne_true)]
   rfl
 ·rintro σ H3 ⟨x2,rfl,s3⟩
  rw[am,l40]
  exact⟨_,rfl,q H3 s3⟩
abbrev sLRaw:Stmt:=top 75
theorem scLRaw:FnScope ["_law_parts_here","_law_found","_law_before","_law_part_here","_law_text_here","_law_words"] ["_law_parts_here"] (ad sLRaw):=mkS
def gX (R:PC->Prop):Sp:=λvs H Q _=>∃(v:V) (ps:List PC),vs=[v]/\Dn H v (.list (ps.map dP))/\(∀p∈ps,R p)/\(raws false ps).length<=100000/\∀H',Same H H'->Q (vS (raws false ps)) H'
theorem qF {k:Nat}{R:PC->Prop}{spI:Sp}(F:Fun K "_law_raw" "_law_raw" sLRaw f fd)(T:TxD mg)(D_l_back:Def P w K mg base 1 "_law_back" ["_law_text_here"] gW)(D_l_raw:Def P w K mg base k "_law_raw" ["_law_parts_here"] spI)(hI:∀ps,R (.strong ps)->∀vs H Q E,gX R1 vs H Q E->spI vs H Q E):FnOk P w K mg base CX0 (k+2) f fd ["_law_parts_here"] (gX R):=by
 have sc:=scLRaw
 refine F.oks sc λcdv A outer s H vs Q E hr h=>?_
 obtain⟨v,ps,rfl,hd,hR,hsum,q⟩:=h
 refine ao (xbc (xset (i:=1) sc.nd rfl (Or.inl rfl) xstr)
  (xbc (xset (i:=2) sc.nd rfl (Or.inl rfl) xstr)
  (xbc (xfor PassesOwn.never rfl (xil (xv 0)) (xgn (i:=3) sc.nd rfl (Or.inl rfl))
  (xbc (xif (aw aD (xix al (xv 3) xint (λ_ _=>rfl)) xstr (ai _)) (xbc (xset (i:=4) sc.nd rfl (Or.inl rfl) (xcd D_l_back hr (xac (xix al (xv 3) xint (λ_ _=>rfl)) xa0)))
  (xb1 (xif (xand (aw aD (xv 2) xstr (ai _)) (fv (aw aD (xsl bq (xv 4) xo0 (xo1 xint)) xstr (ai _)))).xt (xb1 (xset (i:=4) sc.nd rfl (Or.inl rfl) (xop ae xstr (xv 4)))) xb0))) (xb1 (xif (aw aD (xix al (xv 3) xint (λ_ _=>rfl)) xstr (ai _)) (xb1 (xset (i:=4) sc.nd rfl (Or.inl rfl) (xop ae (xop ae xstr (xix al (xv 3) xint (λ_ _=>rfl))) xstr))) (xb1 (xif (aw aD (xix al (xv 3) xint (λ_ _=>rfl)) xstr (ai _)) (xb1 (xset (i:=4) sc.nd rfl (Or.inl rfl) (xop ae (xop ae xstr (xcd D_l_raw hr (xac (xix al (xv 3) xint (λ_ _=>rfl)) xa0))) xstr))) (xb1 (xif (aw aD (xix al (xv 3) xint (λ_ _=>rfl)) xstr (ai _)) (xbc (xset (i:=5) sc.nd rfl (Or.inl rfl) (xop ae (xop dz xstr (xcTy bO T.n_int rfl (xac (xcmp aD (xsl bq (xix al (xv 3) xint (λ_ _=>rfl)) xo0 (xo1 xint)) xstr (ai _)) xa0))) (xcd D_l_back hr (xac (xix al (xv 3) xint (λ_ _=>rfl)) xa0))))
  (xb1 (xset (i:=4) sc.nd rfl (Or.inl rfl) (xop ae (xop ae (xop ae (xop ae xstr (xv 5)) xstr) (xix al (xv 3) xint (λ_ _=>rfl))) xstr)))) (xb1 (xset (i:=4) sc.nd rfl (Or.inl rfl) (xop ae (xop ae xstr (xix al (xv 3) xint (λ_ _=>rfl))) xstr))))))))))
  (xbc (xset (i:=1) sc.nd rfl (Or.inl rfl) (xop ae (xv 1) (xv 4)))
  (xb1 (xset (i:=2) sc.nd rfl (Or.inl rfl) (xix al (xv 3) xint (λ_ _=>rfl)))))))
  (xb1 (xret (xv 1)))))) ?_
 rw[show aS ["_law_parts_here","_law_found","_law_before","_law_part_here","_law_text_here","_law_words"] [v]=[some v,none,none,none,none,none] from rfl]
 obtain⟨l,xs,ds,rfl,hds,el,da,hdl⟩ |⟨_,z⟩:=Dn.lstCase hd
 rotate_left
 ·exact absurd rfl (z _)
 cases hds
 have hxl:xs.length=ps.length:=by rw[da.len,l6]
 refine c9 (c9 ?_)
 dsimp only[sA,sB]
 refine⟨_,rfl,l,rfl,⟨_,SqL.of el⟩,?_⟩
 refine bN (xs:=xs) (λi σ H'=>∃fd0 b bs x3 x4 x5,σ=[some (.ref l),some (vS fd0),some (.str bs),x3,x4,x5]/\Same H H'/\decide (bs=fQ)=b/\fd0++raws b (ps.drop i)=raws false ps) ⟨[],false,_,none,none,none,rfl,Same.refl _,by decide +kernel,rfl⟩ ?_ ?_ ?_
 ·rintro i σ H3 _ ⟨_,_,_,_,_,_,_,s3,_⟩
  exact SqL.of (s3 _ _ el)
 ·rintro i x σ H3 hx ⟨fd0,b,bs,x3,x4,x5,rfl,s3,hbs,hfd⟩
  obtain⟨p,hp,hdr,hdx⟩:=mY da hx
  rw[hdr] at hfd
  have hfd:fd0++(aK b (rawP p)++raws (cY p) (ps.drop (i+1)))=raws false ps:=hfd
  have hlen:fd0.length+(aK b (rawP p)).length<=100000:=by
   have:=congrArg List.length hfd
   rw[l5,l5] at this
   omega
  rw[<- l24] at hfd
  have hRp:=hR p (l17 hp)
  obtain⟨tb,ys,rfl,et⟩:=gT hdx
  have et:=s3 _ _ et
  dsimp only[av,sA,sB]
  refine bt (λσ' H'=>∃x5',σ'=[some (.ref l),some (vS fd0),some (.str bs),some (V.ref tb),some (vS (aK b (rawP p))),x5']/\Same H3 H') (λN hN=>?_) ?_
  ·refine s_five p (λH' s'=>cj (ev_v rfl) ev_c (SqT.of (s' _ _ et)) (aC (j:=0) rfl)) λH4 s4=>?_
   have ev:∀(j:Nat) (y:V) (H':Hp),Same H4 H'->(V.str (kdP p)::ys)[j]? = some y->Ev (tOp (rIxT K) (tVar 3) (tC (.int j))) [some (.ref l),some (vS fd0),some (.str bs),some (.ref tb),x4,x5] H' y:=λj y H' s' hj=>cj (ev_v rfl) ev_c (SqT.of ((s4.trans s') _ _ et)) (aC hj)
   have done:∀(l2:List Nat) (x:Option V) (H5:Hp),Same H4 H5->l2=aK b (rawP p)->N [some (V.ref l),some (vS fd0),some (.str bs),some (V.ref tb),some (vS l2),x] H5:=λl2 x H5 s5 e=>hN _ _ ⟨x,by rw[e],s4.trans s5⟩
   match p,hdx,hRp,hlen,ev,et,done with
   | .one (.plain st),hdx,hRp,hlen,ev,et,done=>
    obtain⟨_,e',e⟩:=gS hdx
    cases e'
    cases (s3 _ _ e).symm.trans et
    obtain⟨st,rfl⟩:=S_ex st
    have hg:=mK st
    have done:∀(l2:List Nat) (H5:Hp),Same H4 H5->l2=aK b (aR st)->N [some (V.ref l),some (vS fd0),some (.str bs),some (V.ref tb),some (vS l2),x5] H5:=λl2 H5=>done l2 x5 H5
    have hlen:fd0.length+(aK b (aR st)).length<=100000:=hlen
    have hgl:(aR st).length<=100000:=by
     unfold aK at hlen
     split at hlen
     ·rw[l8] at hlen;omega
     ·omega
    refine ev 1 (vS st) H4 (Same.refl _) rfl _ ⟨st,rfl,by omega,λH5 s5=>?_⟩
    dsimp only[av,sA,sB]
    refine s_if (b&&decide ((aR st).head? = some 58)) (iU _ _ (by rw[<- hbs];exact lj (ev_v rfl) ev_c) λ_ H6 s6=>by rw[<- kF];exact lj (iX (l:=aR st) (by omega) (ev_v rfl) iV (iW ev_c) rfl) ev_c) (λH6 s6 z=>?_) λH6 s6 z=>?_
    ·exact kA (aH (a:=[92]) (aN rfl) (ev_v rfl) (by show 1+_<=_;omega)) (done _ _ (s5.trans s6) (by unfold aK;rw[if_pos z];rfl))
    ·exact done _ _ (s5.trans s6) (by unfold aK;rw[if_neg (by rw[z];exact Bool.false_ne_true)])
   | .one (.code st),hdx,hRp,hlen,ev,et,done=>
    obtain⟨_,e',e⟩:=gS hdx
    cases e'
    cases (s3 _ _ e).symm.trans et
    obtain⟨st,rfl⟩:=S_ex st
    have hc:aK b (rawP (.one (.code (S st))))=[96]++st++[96]:=fZ (by decide)
    rw[hc] at hlen done
    simp only[l5,l8,l23] at hlen
    exact aH (aH (aN (b:=[96]) rfl) (ev 1 (vS st) H4 (Same.refl _) rfl) (by simp;omega)) (aN (b:=[96]) rfl) (by simp;omega) _ (done _ x5 _ (Same.refl _) rfl)
   | .strong qs,hdx,hRp,hlen,ev,et,done=>
    obtain⟨_,vm,e',e,b'⟩:=oy hdx
    cases e'
    cases (s3 _ _ e).symm.trans et
    have hc:aK b (rawP (.strong qs))=[42]++de false qs++[42]:=fZ (by decide)
    rw[hc] at hlen done
    simp only[l5,l8,l23] at hlen
    have em:(qs.map PC.one).map dP=qs.map d1:=by rw[l28];rfl
    refine ev 1 _ H4 (Same.refl _) rfl _ ?_
    refine hI qs hRp _ _ _ _ ⟨_,qs.map .one,rfl,by rw[em];exact b'.same (s3.trans s4),λp hp=>?_,by rw[eV];omega,λH7 s7=>?_⟩
    ·obtain⟨x,_,rfl⟩:=l32.mp hp
     unfold R1
     simp[one?]
    rw[eV]
    have done:=done ([42]++de false qs++[42]) x5 H7 s7 rfl
    generalize de false qs=X at hlen done ⊢
    refine⟨_,_,rfl,rfl,by show 1+(S X).length<=_;rw[am,sizeLine_eq];omega,?_⟩
    rw[show Str.ofString "*"++S X=S ([42]++X) from bb [42] X]
    refine⟨_,_,rfl,rfl,by show (S ([42]++X)).length+1<=_;rw[am,sizeLine_eq,l5];show 1+_+1<=_;omega,?_⟩
    rw[show S ([42]++X)++Str.ofString "*"=S ([42]++X++[42]) from bb _ [42]]
    exact done
   | .one (.link st nm),hdx,hRp,hlen,ev,et,done=>
    obtain⟨_,e',e⟩:=told3 hdx
    cases e'
    cases (s3 _ _ e).symm.trans et
    obtain⟨st,rfl⟩:=S_ex st
    obtain⟨nm,rfl⟩:=S_ex nm
    have hg:=mK st
    have hc:aK b (rawP (.one (.link (S st) (S nm))))=[91]++bn st++aR st++[93,40]++nm++[41]:=fZ (by decide)
    rw[hc] at hlen done
    have hb:bn st=bsl (decide (st.head? = some 94)):=by
     unfold bn bsl
     by_cases z:st.head? = some 94
     ·rw[if_pos z,decide_eq_true z];rfl
     ·rw[if_neg z,decide_eq_false z];rfl
    rw[hb] at hlen done
    simp only[l5,l8,l23] at hlen
    refine s_catC (a:=bsl (decide (st.head? = some 94))) (ev_bsl1 (ev_as (qt (iX (l:=st) (by omega) (ev 1 (vS st) H4 (Same.refl _) rfl) iV (iW ev_c) rfl)) (congrArg V.bl (kF st 94)))) (ev 1 (vS st) H4 (Same.refl _) rfl) ⟨st,rfl,by omega,λH5 s5=>⟨_,_,rfl,rfl,by rw[am,am,sizeLine_eq];omega,?_⟩⟩
    rw[bb]
    dsimp only[av,sA,sB]
    refine aH (aH (aH (aH (aN (b:=[91]) rfl) (ev_v (v:=vS (bsl (decide (st.head? = some 94))++aR st)) rfl) (by simp;omega)) (aN (b:=[93,40]) rfl) (by simp;omega)) (b:=nm) ?_ (by simp;omega)) (aN (b:=[41]) rfl) (by simp;omega) _ (done _ _ _ s5 (by simp))
    exact cj (ev_v rfl) ev_c (SqT.of ((s4.trans s5) _ _ et)) (aC (j:=2) rfl)
   | .one (.note nm),hdx,hRp,hlen,ev,et,done=>
    obtain⟨_,e',e⟩:=gS hdx
    cases e'
    cases (s3 _ _ e).symm.trans et
    obtain⟨nm,rfl⟩:=S_ex nm
    have hc:aK b (rawP (.one (.note (S nm))))=[91,94]++nm++[93]:=fZ (by decide)
    rw[hc] at hlen done
    simp only[l5,l8,l23] at hlen
    exact aH (aH (aN (b:=[91,94]) rfl) (ev 1 (vS nm) H4 (Same.refl _) rfl) (by simp;omega)) (aN (b:=[93]) rfl) (by simp;omega) _ (done _ x5 _ (Same.refl _) rfl)
  ·rintro σ' H5 ⟨x5',rfl,s5⟩
   refine s_asgQ (aH (a:=fd0) (b:=aK b (rawP p)) (ev_v rfl) (ev_v rfl) (by omega)) ?_
   dsimp only[av,sA,sB]
   exact kA (cj (ev_v rfl) ev_c (SqT.of (s5 _ _ et)) (aC (j:=0) rfl)) ⟨_,cY p,kdP p,_,_,x5',rfl,s3.trans s5,note_kd p,hfd⟩
 ·rintro σ H3 ⟨fd0,b,bs,x3,x4,x5,rfl,s3,_,hfd⟩
  rw[hxl,List.drop_length] at hfd
  have hfd:fd0++[]=_:=hfd
  rw[l31] at hfd
  rw[hfd]
  exact⟨_,rfl,q H3 s3⟩
end
theorem cut_neg1 (l:List Nat):cutL l (some (-1)) none=l.drop (l.length - 1):=by
 unfold cutL
 have h1:bD l.length 0 (some (-1))=l.length - 1:=by
  show (max 0 (min (if (-1:Int) < 0 then (-1:Int)+l.length else -1) l.length)).toNat=_
  rw[if_pos (by decide)]
  omega
 rw[h1]
 show (l.drop (l.length - 1)).take (l.length - (l.length - 1))=_
 rw[l41 (by rw[l25];omega)]
theorem qG (l:List Nat)(c:Nat):l.drop (l.length - 1)=[c] ↔ l.getLast? = some c:=by
 rcases l68 l with rfl |⟨a,x,rfl⟩
 ·simp
 ·rw[l82,l5,l80,l69,List.drop_left,List.getLast?_concat]
  simp
theorem dash_all (d:List Nat):d=List.replicate d.length 45 ↔ ∀c∈d,c=45:=⟨λh c hc=>by rw[h] at hc;exact l91 hc,λh=>List.eq_replicate_of_mem h⟩
section
abbrev qH:Stmt:=top 76
theorem scLRule:FnScope ["_law_text_here","_law_rest"] ["_law_text_here"] (ad qH):=mkS
def mf:Sp:=λvs H Q _=>∃l:List Nat,vs=[vS l]/\l.length<=100000/\∀H',Same H H'->Q (.bl (d9 l)) H'
theorem ok_lrule (F:Fun K "_law_is_rule" "_law_is_rule" qH f fd)(T:TxD mg):FnOk P w K mg base CX0 1 f fd ["_law_text_here"] mf:=by
 have sc:=scLRule
 refine F.oks sc λcdv A outer s H vs Q E hr h=>?_
 obtain⟨l,rfl,hl,q⟩:=h
 refine ao (xbc (xset (i:=1) sc.nd rfl (Or.inl rfl) (xifE (aw aD (xsl bq (xv 0) (xo1 (xun ej xint)) xo0) xstr (ai _)) (xsl bq (xv 0) xo0 (xo1 (xun ej xint))) (xv 0)))
  (xb1 (xret (gm (xcmp jx (xv 1) xstr (ai _)) (xone (xcmp aD (xv 1) (xop op_mulL xstr (xcB aJ T.n_len PySem.boot_len (xac (xv 1) xa0))) (ai _))))))) ?_
 have hs:sizeLine=16777216:=sizeLine_eq
 rw[show aS ["_law_text_here","_law_rest"] [vS l]=[some (vS l),none] from rfl]
 have key:∀d,d=lB l->Ev (oG (tOp rNe (tVar 1) (tC (.str (Str.ofString "")))) (tOp rEq (tVar 1) (tOp (λx y H Q=>∃z n,x = .str z/\y = .int n/\z.length=1/\0<=n/\n<=1000000/\Q (.str (Txt.mul z n)) H) (tC (.str (Str.ofString "-"))) (tCB (λxs H Q=>∃z,xs=[.str z]/\z.length<=sizeLine/\Q (.int z.length) H) (aE (tVar 1) tNil))))) [some (vS l),some (vS d)] H (.bl (d9 l)):=by
  intro d hd
  have hdl:d.length<=100000:=by
   rw[hd];unfold lB
   split
   ·rw[List.length_dropLast];omega
   ·exact hl
  have e:d9 l=(decide (d≠[])&&decide (d=List.replicate d.length 45)):=by
   rw[Bool.eq_iff_iff,mH,<- hd,Bool.and_eq_true,decide_eq_true_iff,decide_eq_true_iff,dash_all]
  rw[e]
  refine pV (ev_ne (ev_v rfl) (aN (b:=[]) rfl)) λ_=>ev_eq (ev_v rfl) λR r=>?_
  refine⟨_,rfl,_,rfl,by rw[am,hs];omega,_,_,rfl,rfl,by decide,by omega,by rw[am];omega,?_⟩
  rw[am,show Txt.mul (Str.ofString "-") (d.length:Int)=S (List.replicate d.length 45) from iY 45 d.length]
  exact r
 have hev:Ev (tSl rSlS (tVar 0) (oR (tUn (rU λi => .int (-i)) (tC (.int 1)))) gg) [some (vS l),none] H (vS (l.drop (l.length - 1))):=iX (by omega) (ev_v rfl) (iW (lf (i:=1) (g:=λi => .int (-i)) ev_c rfl)) iV (cut_neg1 l)
 refine hev _ ⟨rfl,_,rfl,?_⟩
 have hdec:decide (vS (l.drop (l.length - 1))=V.str ":")=decide (l.getLast? = some 58):=decide_eq_decide.mpr ⟨λz=>(qG l 58).mp (show (S (l.drop (l.length - 1))).cps.toList=(S [58]).cps.toList from congrArg (λx:Str=>x.cps.toList) (V.str.inj z)),λz=>by rw[(qG l 58).mpr z];rfl⟩
 rw[hdec]
 refine ite2 (λe=>?_) (λe=>?_)
 ·refine iX (σ:=[some (vS l),none]) (H:=H) (by omega) (ev_v (k:=0) rfl) iV (iW (lf (i:=1) (g:=λi => .int (-i)) ev_c rfl)) (mF l) _ ?_
  exact key l.dropLast (if_pos (of_decide_eq_true e)).symm _ (q H (Same.refl H))
 ·refine⟨_,rfl,?_⟩
  exact key l (if_neg (λz=>e (decide_eq_true z))).symm _ (q H (Same.refl H))
end
def escF (x:Nat):List Nat:=if x=124 then [92,124] else [x]
def barF (t:List Nat):List Nat:=if t=[] then [32,124] else [32]++t++[32,124]
theorem qI (ts:List (List Nat))(t:List Nat):bZ (ts++[t])=bZ ts++barF t:=by
 unfold bZ
 rw[l60,l24]
 simp[barF]
theorem kG {ts:List (List Nat)}{i:Nat}{t:List Nat}(h:ts[i]? = some t):bZ (ts.take (i+1))=bZ (ts.take i)++barF t:=by
 rw[l42,h]
 exact qI _ _
theorem bars_len (ts:List (List Nat))(i:Nat):(bZ (ts.take i)).length<=(bZ ts).length:=by
 have:∃z,bZ ts=bZ (ts.take i)++z:=by
  refine⟨(ts.drop i).flatMap barF,?_⟩
  conv=>lhs;rw[<- l58 i ts]
  unfold bZ
  rw[l60,l24]
  rfl
 obtain⟨z,hz⟩:=this
 rw[hz,l5]
 omega
theorem pick2 {K:PySem.W.Frag}{σ:St}{H:Hp}{tb:TE}{x y:V}{b:Bool}{Q:VK}(h:∀H',Same H H'->Ev tb σ H' (.bl b))(k:∀H',Same H H'->Q (if b then y else x) H'):tOp (rIxL K) (tLst (aE (tC x) (aE (tC y) tNil))) (tCB (λxs H Q=>(∃i,xs=[.int i]/\Q (.int i) H) ∨ ∃k,xs=[.bl k]/\Q (.int (if k=true then 1 else 0)) H) (aE tb tNil)) σ H Q:=
 ⟨big (show (2:Nat)<=1000000 by decide),λo ho=>h _ (ac ho _) _ (.inr ⟨b,rfl,o,_,_,_,rfl,rfl,SqL.of aa,by cases b <;> rfl,k _ (ac ho _)⟩)⟩
section
abbrev sLine:Stmt:=top 77
theorem scLine:FnScope ["_law_cells_here","_law_row","_law_cell_here","_law_raw_here","_law_text_here","_law_sign"] ["_law_cells_here"] (ad sLine):=mkS
def qJ:Sp:=λvs H Q _=>∃(v:V) (cs:List (List PC)),vs=[v]/\Dn H v (bF cs)/\(∀ps∈cs,∀p∈ps,R2 p)/\(bi cs).length<=100000/\∀H',Same H H'->Q (vS (bi cs)) H'
theorem ok_line {m:Nat}(F:Fun K "_law_line" "_law_line" sLine f fd)(T:TxD mg)(D_l_raw:Def P w K mg base m "_law_raw" ["_law_parts_here"] (gX R2))(D_l_is_rule:Def P w K mg base 1 "_law_is_rule" ["_law_text_here"] mf):FnOk P w K mg base CX0 (m+2) f fd ["_law_cells_here"] qJ:=by
 have sc:=scLine
 refine F.oks sc λcdv A outer s H vs Q E hr h=>?_
 obtain⟨v,cs,rfl,hd,hR,hlen,q⟩:=h
 have hs:sizeLine=16777216:=sizeLine_eq
 refine ao (xbc (xset (i:=1) sc.nd rfl (Or.inl rfl) xstr)
  (xbc (xfor PassesOwn.never rfl (xil (xv 0)) (xgn (i:=2) sc.nd rfl (Or.inl rfl))
  (xbc (xset (i:=3) sc.nd rfl (Or.inl rfl) (xcd D_l_raw hr (xac (xv 2) xa0)))
  (xbc (xif (bA (xcd D_l_is_rule hr (xac (xv 3) xa0))) (xb1 (xset (i:=3) sc.nd rfl (Or.inl rfl) (xop ae xstr (xv 3)))) xb0)
  (xbc (xset (i:=4) sc.nd rfl (Or.inl rfl) xstr)
  (xbc (xfor PassesOwn.never rfl (xis (xv 3)) (xgn (i:=5) sc.nd rfl (Or.inl rfl))
  (xb1 (xset (i:=4) sc.nd rfl (Or.inl rfl) (xop ae (xop ae (xv 4) (xix aU (xlst (xac xstr (xac xstr xa0))) (xcTy bO T.n_int rfl (xac (xcmp aD (xv 5) xstr (ai _)) xa0)) (λ_ _=>rfl))) (xv 5)))))
  (xb1 (xset (i:=1) sc.nd rfl (Or.inl rfl) (xop ae (xop ae (xop ae (xv 1) xstr) (xv 4)) (xix aU (xlst (xac xstr (xac xstr xa0))) (xcTy bO T.n_int rfl (xac (xcmp aD (xv 4) xstr (ai _)) xa0)) (λ_ _=>rfl))))))))))
  (xb1 (xret (xv 1))))) ?_
 rw[show aS ["_law_cells_here","_law_row","_law_cell_here","_law_raw_here","_law_text_here","_law_sign"] [v]=[some v,none,none,none,none,none] from rfl]
 obtain⟨l,xs,rfl,el,da⟩:=bg hd
 have hxl:xs.length=cs.length:=by rw[da.len,l6]
 refine c9 ?_
 dsimp only[sA,sB]
 refine⟨_,rfl,l,rfl,⟨_,SqL.of el⟩,?_⟩
 refine bN (xs:=xs) (λi σ H'=>∃x2 x3 x4 x5,σ=[some (.ref l),some (vS (bZ ((cs.map bR).take i))),x2,x3,x4,x5]/\Same H H') ⟨none,none,none,none,rfl,Same.refl _⟩ ?_ ?_ ?_
 ·rintro i σ H3 _ ⟨_,_,_,_,_,s3⟩
  exact SqL.of (s3 _ _ el)
 ·rintro i x σ H3 hx ⟨x2,x3,x4,x5,rfl,s3⟩
  obtain⟨d,hdi,hdx⟩:=da.getV hx
  rw[List.getElem?_map] at hdi
  obtain⟨ps,hps,rfl⟩:=l52.mp hdi
  have hti:(cs.map bR)[i]? = some (bR ps):=by rw[List.getElem?_map,hps];rfl
  have hbl:(bZ ((cs.map bR).take i)).length+(barF (bR ps)).length<=100000:=by
   have:=bars_len (cs.map bR) (i+1)
   rw[kG hti,l5] at this
   exact l10 this hlen
  rw[kG hti]
  generalize bZ ((cs.map bR).take i)=row at hbl ⊢
  have hcl:(bR ps).length<=100000:=by
   unfold barF at hbl
   split at hbl
   ·rename_i z;rw[z];exact l14 _
   ·simp only[l5] at hbl;omega
  have hmem:=l17 hps
  have hrl:(raws false ps).length<=100000:=by
   have h1:=qd (if d9 (raws false ps) then 92::raws false ps else raws false ps)
   have h2:(raws false ps).length<=(if d9 (raws false ps) then 92::raws false ps else raws false ps).length:=by
    split
    ·exact Nat.le_succ _
    ·exact l7 _
   exact l10 (l10 h2 h1) hcl
  dsimp only[av,sA,sB]
  refine⟨_,rfl,x,ps,rfl,hdx.same s3,hR ps hmem,hrl,λH4 s4=>?_⟩
  dsimp only[av,sA,sB]
  refine bt (λσ' H'=>∃raw,σ'=[some (.ref l),some (vS row),some x,some (vS raw),x4,x5]/\Lm.escC raw=bR ps/\Same H H') (λN hN=>?_) ?_
  ·refine⟨_,rfl,_,rfl,hrl,λH5 s5=>⟨_,rfl,?_⟩⟩
   refine ite2 (λz=>?_) (λz=>?_)
   ·exact kA (aH (a:=[92]) (aN rfl) (ev_v rfl) (by show 1+_<=_;omega)) (hN _ _ ⟨_,rfl,by unfold bR;rw[if_pos z];rfl,(s3.trans s4).trans s5⟩)
   ·exact hN _ _ ⟨_,rfl,by unfold bR;rw[if_neg z],(s3.trans s4).trans s5⟩
  rintro σ' H5 ⟨raw,rfl,hraw,s5⟩
  have hral:raw.length<=100000:=by
   have:=qd raw
   rw[hraw] at this
   omega
  refine c9 ?_
  dsimp only[sA,sB]
  refine bt (λσ' H'=>∃x5,σ'=[some (.ref l),some (vS row),some x,some (vS raw),some (vS (bR ps)),x5]/\Same H H') (λN hN=>?_) ?_
  ·refine⟨_,rfl,_,rfl,?_⟩
   refine pE (z:=S raw) (λi σ H'=>∃x5,σ=[some (.ref l),some (vS row),some x,some (vS raw),some (vS ((raw.take i).flatMap escF)),x5]/\Same H H') ⟨_,rfl,s5⟩ ?_ ?_
   ·rintro j c σ H6 hc ⟨x5,rfl,s6⟩
    rw[ek] at hc
    have htk:(raw.take (j+1)).flatMap escF=(raw.take j).flatMap escF++escF c:=by
     rw[l42,hc,l60]
     simp
    have hfl:((raw.take (j+1)).flatMap escF).length<=100000:=by
     have e:raw.flatMap escF=bR ps:=by rw[<- hraw,jh];rfl
     have:raw.flatMap escF=(raw.take (j+1)).flatMap escF++(raw.drop (j+1)).flatMap escF:=by rw[<- l60,l58]
     have:=congrArg List.length this
     rw[e,l5] at this
     omega
    rw[htk] at hfl ⊢
    rw[l5] at hfl
    generalize (raw.take j).flatMap escF=fd0 at hfl ⊢
    dsimp only[av,sA,sB]
    refine⟨_,rfl,pick2 (b:=decide (c=124)) (λH' s'=>ev_as (qt (x:=S [c]) (ev_v rfl)) (congrArg V.bl (decide_eq_decide.mpr ⟨λz=>?_,λz=>by rw[z];rfl⟩))) λH7 s7=>?_⟩
    ·have z:(S [c]).cps.toList=(S [124]).cps.toList:=congrArg (λx:Str=>x.cps.toList) z
     cases z
     rfl
    have hp:(if decide (c=124)=true then V.str "\\" else V.str "")=vS (if c=124 then [92] else []):=by
     by_cases z:c=124
     ·rw[if_pos z,decide_eq_true z];rfl
     ·rw[if_neg z,decide_eq_false z];rfl
    have he:escF c=(if c=124 then [92] else [])++[c]:=by
     unfold escF
     by_cases z:c=124
     ·rw[if_pos z,if_pos z,z];rfl
     ·rw[if_neg z,if_neg z];rfl
    rw[hp]
    rw[he] at hfl ⊢
    rw[l5,l80] at hfl
    generalize (if c=124 then [92] else []:List Nat)=pk at hfl ⊢
    refine⟨_,_,rfl,rfl,by rw[am,am,hs];omega,_,rfl,_,_,rfl,rfl,by rw[bb,am,l5,hs];show _+1<=_;omega,?_⟩
    have e3:(S fd0++S pk)++S [c]=S (fd0++(pk++[c])):=by rw[bb,bb,l24]
    refine⟨some (vS [c]),?_,s6.trans s7⟩
    show [some (V.ref l),some (vS row),some x,some (vS raw),some (V.str ((S fd0++S pk)++S [c])),some (vS [c])]=_
    rw[e3]
   ·rintro σ H6 ⟨x5,rfl,s6⟩
    rw[am,l40]
    exact hN _ _ ⟨x5,by rw[<- hraw,jh];rfl,s6⟩
  rintro σ' H6 ⟨x5,rfl,s6⟩
  have hb:barF (bR ps)=[32]++bR ps++(if bR ps=[] then [124] else [32,124]):=by
   unfold barF
   by_cases z:bR ps=[]
   ·rw[if_pos z,if_pos z,z];rfl
   ·rw[if_neg z,if_neg z]
  rw[hb] at hbl ⊢
  simp only[l5] at hbl
  generalize bR ps=ce at hbl hcl ⊢
  have hbl:row.length+(1+ce.length+(if ce=[] then [124] else [32,124]:List Nat).length)<=100000:=hbl
  refine⟨_,rfl,_,_,rfl,rfl,by show (S row).length+1<=_;rw[am,hs];omega,?_⟩
  rw[show S row++Str.ofString " "=S (row++[32]) from bb row [32]]
  refine⟨_,rfl,_,_,rfl,rfl,by rw[am,am,hs,l5];show _+1+_<=_;omega,?_⟩
  rw[bb]
  refine pick2 (b:=decide (ce=[])) (λH' s'=>ev_eq (b:=[]) (ev_v rfl) (aN rfl)) λH7 s7=>?_
  have hp:(if decide (ce=[])=true then V.str "|" else V.str " |")=vS (if ce=[] then [124] else [32,124]):=by
   by_cases z:ce=[]
   ·rw[if_pos z,decide_eq_true z];rfl
   ·rw[if_neg z,decide_eq_false z];rfl
  rw[hp]
  generalize (if ce=[] then [124] else [32,124]:List Nat)=pk at hbl ⊢
  refine⟨_,_,rfl,rfl,by rw[am,am,hs,l5,l5];show _+1+_+_<=_;omega,?_⟩
  rw[bb]
  exact⟨_,_,_,_,by rw[show row++[32]++ce++pk=row++([32]++ce++pk) by simp];rfl,s6.trans s7⟩
 ·rintro σ H3 ⟨x2,x3,x4,x5,rfl,s3⟩
  rw[hxl,l41 (by rw[l6];exact l7 _)]
  exact⟨_,rfl,q H3 s3⟩
end
theorem kH {G:Hp}{v:V}{ds:List PyData}(h:Dn G v (.tuple ds)):∃a xs,v = .ref a/\G a=some (.tup xs)/\DnAll G xs ds:=by
 cases h with |tup e r=>exact⟨_,_,rfl,e,r⟩
theorem aZ {G:Hp}{v:V}{s:Str}(h:Dn G v (.str s)):v = .str s:=by cases h;rfl
theorem ak {G:Hp}{vs:List V}{d:PyData}{ds:List PyData}(h:DnAll G vs (d::ds)):∃v us,vs=v::us/\Dn G v d/\DnAll G us ds:=by
 cases h with |cons a b=>exact⟨_,_,rfl,a,b⟩
theorem s_ifE {te tl:TE}{r:R2}{A B:TS}{D:Ends}{σ:St}{H:Hp}{v:V}(h:Ev te σ H v)(k:tl σ H λy H2=>r v y H2 λb H3=>∃c,b = .bl c/\if c=true then A D σ H3 else B D σ H3):tIfS (bH (tOp r te tl)) A B D σ H:=h _ k
theorem fI {G:Hp}{vs:List V}(h:DnAll G vs []):vs=[]:=by cases h;rfl
def iG (hd:List (List PC))(sd:List Bool)(ls:List (List (List PC))):List (List Nat):=if hd=[] then ls.map bi else [bi hd,ca sd]++ls.map bi
def R2s (cs:List (List PC)):Prop:=∀ps∈cs,∀p∈ps,R2 p
def sdG (b:Bool):List Nat:=if b then [45,45,58] else [45,45,45]
def sdF (b:Bool):List Nat:=[32]++sdG b++[32,124]
theorem sides_eq (sd:List Bool):ca sd=[124]++(sd.map sdF).flatten:=by
 unfold ca bZ
 rw[List.flatMap_map,List.flatMap_def]
 congr 1
 congr 1
 refine l51 λb _=>?_
 cases b <;> rfl
theorem sideC_eq (b:Bool):decide (S (bU b)="right")=b:=by cases b <;> decide +kernel
section
abbrev sTR:Stmt:=top 78
theorem scTR:FnScope ["_law_block_here","_law_rows_here","_law_sides"] ["_law_block_here"] (ad sTR):=mkS
def spTR:Sp:=λvs H Q _=>∃(v:V) (hd:List (List PC)) (sd:List Bool) (ls:List (List (List PC))),vs=[v]/\Dn H v (dTb hd sd ls)/\R2s hd/\(∀l∈ls,R2s l)/\ls.length<=1000/\sd.length<=1000/\RowsOk (iG hd sd ls)/\∀r H',Same H H'->H r=none->H' r=some (.lst ((iG hd sd ls).map vS))->Q (.ref r) H'
theorem ok_tr {m:Nat}(F:Fun K "_law_table_rows" "_law_table_rows" sTR f fd)(T:TxD mg)(D_l_line:Def P w K mg base m "_law_line" ["_law_cells_here"] qJ):FnOk P w K mg base CX0 (m+2) f fd ["_law_block_here"] spTR:=by
 have sc:=scTR
 refine F.oks sc λcdv A outer s H vs Q E hr h=>?_
 obtain⟨v,hd,sd,ls,rfl,dv,hR1,hR2,hll,hsl,hok,q⟩:=h
 have hs:sizeLine=16777216:=sizeLine_eq
 have hu:(A.deeper (PyProof.Rows.envOfC "_law_table_rows" (ad sTR) s.heap.objs.size f cdv)).units+64 < cLine:=by
  have:=hr.un
  omega
 obtain⟨b0,ys,rfl,eb,dy⟩:=kH dv
 obtain⟨y0,ys,rfl,d0,dy⟩:=ak dy
 obtain⟨vh,ys,rfl,dh,dy⟩:=ak dy
 obtain⟨vs,ys,rfl,ds,dy⟩:=ak dy
 obtain⟨vl,ys,rfl,dl,dy⟩:=ak dy
 cases fI dy
 obtain⟨hh,xh,rfl,eh,dxh⟩:=bg dh
 obtain⟨ss,xs,rfl,es,dxs⟩:=bg ds
 obtain⟨ll,xl,rfl,el,dxl⟩:=bg dl
 have hxl:xl.length=ls.length:=by rw[dxl.len,l6]
 have hxs:xs.length=sd.length:=by rw[dxs.len,l6]
 refine ao (xbc (xslc (i:=1) sc.nd rfl rfl (cl:=[]) (own:=["_law_line_here"]) (fr:=[]) (N':=["_law_line_here"]) rfl (bw (xs:=[]) trivial trivial (by decide +kernel)) (by decide +kernel) (by decide +kernel) (by with_unfolding_all rfl)
  (xil (xix al (xv 0) xint (λ_ _=>rfl)))
  (λ_ _ _ _=>xgn (i:=0) (show (["_law_line_here"]:List Str).Nodup by decide +kernel) rfl (Or.inl rfl)) (λ_ _ _ _=>xq0) (λ_ _ _ _=>(xcd D_l_line hr (xac (xv 0) xa0))))
  (xbc (xif (aw (jY hu) (xix al (xv 0) xint (λ_ _=>rfl)) (xlst xa0) (ai _)) (xb1 (xret (xv 1))) xb0)
  (xbc (xset (i:=2) sc.nd rfl (Or.inl rfl) (xop ae xstr (xm PySem.F.plainAttrs_str PySem.F.slot_str_join PySem.F.type_str_join dX xstr (xac (xlc (cl:=[]) (own:=["_law_side"]) (fr:=[]) (N':=["_law_side"]) rfl (bw (xs:=[]) trivial trivial (by decide +kernel)) (by decide +kernel) (by decide +kernel) (by with_unfolding_all rfl)
  (xil (xix al (xv 0) xint (λ_ _=>rfl)))
  (λ_ _ _ _=>xgn (i:=0) (show (["_law_side"]:List Str).Nodup by decide +kernel) rfl (Or.inl rfl)) (λ_ _ _ _=>xq0) (λ_ _ _ _=>(xop ae (xop ae xstr (xix iO (xlst (xac xstr (xac xstr xa0))) (xcTy bO T.n_int rfl (xac (xcmp aD (xv 0) xstr (ai _)) xa0)) (λ_ _=>rfl))) xstr))) xa0))))
  (xb1 (xret (xop fJ (xlst (xac (xcd D_l_line hr (xac (xix al (xv 0) xint (λ_ _=>rfl)) xa0)) (xac (xv 2) xa0))) (xv 1))))))) ?_
 rw[show aS ["_law_block_here","_law_rows_here","_law_sides"] [V.ref b0]=[some (V.ref b0),none,none] from rfl]
 have hlen:∀l∈ls,(bi l).length<=100000:=λl hl=>by
  have hm:bi l∈iG hd sd ls:=by
   unfold iG
   split
   ·exact l48 hl
   ·exact l30 _ (l48 hl)
  exact(hok.2 _ hm).1
 refine cj (ev_v rfl) ev_c (SqT.of eb) (aC (j:=3) rfl) _ ⟨ll,rfl,⟨_,SqL.of el⟩,?_⟩
 refine cw (ls.map bi) (SqL.of el) (by rw[l6];exact hxl) (by rw[l6];omega) ?_ ?_
 ·intro i x tx hx htx H1 s1 C N hC
  obtain⟨d,hdi,hdx⟩:=dxl.getV hx
  rw[List.getElem?_map] at hdi htx
  obtain⟨l,hl,rfl⟩:=l52.mp hdi
  rw[hl] at htx
  cases htx
  have hm:=l17 hl
  exact⟨(nfLe.refl _ _ _).set (by decide) _,iteT (B:=N H1) ⟨_,rfl,x,l,rfl,hdx.same s1,hR2 l hm,hlen l hm,hC⟩⟩
 intro r1 H1 hr1 s1 er1
 have hhx:xh.isEmpty=true ↔ hd=[]:=by
  rw[l64]
  have:=dxh.len
  rw[l6] at this
  refine⟨λz=>?_,λz=>?_⟩
  ·rw[z] at this;exact l90.mp this.symm
  ·rw[z] at this;exact l90.mp this
 dsimp only[av,sA,sB]
 refine s_ifE (cj (ev_v rfl) ev_c (SqT.of (s1 _ _ eb)) (aC (j:=1) rfl)) ⟨big (show (0:Nat)<=1000000 by decide),λo ho=>?_⟩
 have so:=ac ho (.lst [])
 have eo:upd H1 o (.lst []) o=some (.lst []):=aa
 generalize upd H1 o (.lst [])=H2 at so eo ⊢
 have s2:=s1.trans so
 refine⟨hh,o,xh,rfl,rfl,SqL.of (s2 _ _ eh),SqL.of eo,_,rfl,?_⟩
 refine ite2 (λz=>?_) (λz=>?_)
 ·refine⟨_,rfl,q r1 H2 s2 hr1 ?_⟩
  unfold iG
  rw[if_pos (hhx.mp z)]
  exact so _ _ er1
 dsimp only[a9]
 have hne:hd≠[]:=λy=>z (hhx.mpr y)
 have hrows:iG hd sd ls=[bi hd,ca sd]++ls.map bi:=if_neg hne
 rw[hrows] at hok q
 have hl1:(bi hd).length<=100000:=(hok.2 _ (by simp)).1
 have hl2:(ca sd).length<=100000:=(hok.2 _ (by simp)).1
 rw[sides_eq] at hl2 q
 have hl2:1+(sd.map sdF).flatten.length<=100000:=by rwa [l5] at hl2
 refine⟨rfl,_,rfl,b0,_,2, .ref ss,rfl,rfl,SqT.of (s2 _ _ eb),aC (j:=2) rfl,ss,rfl,⟨_,SqL.of (s2 _ _ es)⟩,?_⟩
 refine cw (sd.map sdF) (SqL.of (s2 _ _ es)) (by rw[l6];exact hxs) (by rw[l6];omega) ?_ ?_
 ·intro i x tx hx htx H3 s3 C N hC
  obtain⟨d,hdi,hdx⟩:=dxs.getV hx
  rw[List.getElem?_map] at hdi htx
  obtain⟨b,hb,rfl⟩:=l52.mp hdi
  rw[hb] at htx
  cases htx
  cases aZ hdx
  refine⟨(nfLe.refl _ _ _).set (by decide) _,iteT (B:=N H3) ?_⟩
  refine pick2 (b:=b) (λH' s'=>ev_as (qt (x:=S (bU b)) (ev_v rfl)) (congrArg V.bl (sideC_eq b))) λH4 s4=>?_
  have hp:(if b=true then V.str "--:" else V.str "---")=vS (sdG b):=by cases b <;> rfl
  rw[hp]
  refine⟨_,_,rfl,rfl,by cases b <;> decide,?_⟩
  rw[show Str.ofString " "++S (sdG b)=S ([32]++sdG b) from bb [32] _]
  refine⟨_,_,rfl,rfl,by cases b <;> decide,?_⟩
  rw[show S ([32]++sdG b)++Str.ofString " |"=S (sdF b) from bb _ [32,124]]
  exact hC H4 s4
 intro D H3 hD s3 e3
 refine⟨S [],D,(sd.map sdF).map S,rfl,rfl,SqL.of (e3.trans (by (conv=>rhs;rw[l28]);rfl)),eT _ (by omega),?_⟩
 rw[dZ,cI]
 generalize (sd.map sdF).flatten=fl at hl2 q ⊢
 refine⟨_,_,rfl,rfl,by show 1+(S fl).length<=_;rw[am,hs];omega,?_⟩
 rw[show Str.ofString "|"++S fl=S ([124]++fl) from bb [124] fl]
 dsimp only[av,sA,sB]
 have s23:=s2.trans s3
 refine⟨_,rfl,b0,_,1, .ref hh,rfl,rfl,SqT.of (s23 _ _ eb),aC (j:=1) rfl,_,hd,rfl,dh.same s23,hR1,hl1,λH4 s4=>?_⟩
 refine⟨_,rfl,big (show (2:Nat)<=1000000 by decide),λo2 ho2=>?_⟩
 have s5:=ac ho2 (.lst [vS (bi hd),vS ([124]++fl)])
 have e5:upd H4 o2 (.lst [vS (bi hd),vS ([124]++fl)]) o2=some (.lst [vS (bi hd),vS ([124]++fl)]):=aa
 generalize upd H4 o2 (.lst [vS (bi hd),vS ([124]++fl)])=H5 at s5 e5 ⊢
 have s25:=(so.trans s3).trans (s4.trans s5)
 refine⟨_,rfl,o2,r1,_,_,rfl,rfl,e5,s25 _ _ er1,by rw[hs,l6,l6];show 2+_<=_;omega,λp hp=>?_⟩
 have s15:=s1.trans s25
 refine q p _ (s15.trans (ac hp _)) (s15.free hp) ?_
 rw[l16]
 exact aa
end
def ahC (d:Nat):List Nat:=List.replicate (2 * d) 32
theorem mul2 {d:Nat}(h:d<=6):Txt.mul "  " (d:Int)=S (ahC d):=by
 have:d=0 ∨ d=1 ∨ d=2 ∨ d=3 ∨ d=4 ∨ d=5 ∨ d=6:=by omega
 rcases this with rfl |rfl |rfl |rfl |rfl |rfl |rfl <;> rfl
theorem m7 (d:Nat):ahC d++[32,32]=ahC (d+1):=by
 show List.replicate (2 * d) 32++List.replicate 2 32=List.replicate (2 * (d+1)) 32
 rw[List.replicate_append_replicate]
 rfl
section
abbrev sER:Stmt:=top 79
theorem scER:FnScope ["_law_entries_here","_law_deep","_law_rows_here","_law_sign","_law_parts_here","_law_within"] p23 (ad sER):=mkS
def spER (n:Nat):Sp:=λvs H Q _=>∃(v:V) (es:List (En n)) (d:Nat),vs=[v, .int d]/\Dn H v (.list (es.map (dE n)))/\d+n<=6/\es.length<=1000/\(∀e∈es,OkE n e)/\RowsOk (bo n (ahC d) es)/\∀r H',Same H H'->H r=none->H' r=some (.lst ((bo n (ahC d) es).map vS))->Q (.ref r) H'
def stepR (spI:Sp):Nat->Prop
 |0=>True
 |m+1=>∀vs H Q E,spER m vs H Q E->spI vs H Q E
theorem ok_er {k:Nat}(n:Nat){spI:Sp}(F:Fun K "_law_entry_rows" "_law_entry_rows" sER f fd)(T:TxD mg)(D_l_raw:Def P w K mg base k "_law_raw" ["_law_parts_here"] (gX R2))(D_l_entry_rows:Def P w K mg base k "_law_entry_rows" p23 spI)(hI:stepR spI n):FnOk P w K mg base CX0 (k+2) f fd p23 (spER n):=by
 have sc:=scER
 refine F.oks sc λcdv A outer s H vs Q E hr h=>?_
 obtain⟨v,es,d,rfl,dv,hdn,hel,hok,hro,q⟩:=h
 refine ao (xbc (xset (i:=2) sc.nd rfl (Or.inl rfl) (xlst xa0))
  (xbc (xfor PassesOwn.never rfl (xil (xv 0)) (xgt rfl (xgsc (xgn (i:=3) sc.nd rfl (Or.inl rfl)) (xgsc (xgn (i:=4) sc.nd rfl (Or.inl rfl)) (xgsc (xgn (i:=5) sc.nd rfl (Or.inl rfl)) xgs0))))
  (xbc (b8 (xm PySem.F.plainAttrs_list PySem.F.slot_list_append PySem.F.type_list_append aP (xv 2) (xac (xop ae (xop ae (xop ae (xop op_mulS xstr (xv 1)) (xv 3)) xstr) (xcd D_l_raw hr (xac (xv 4) xa0))) xa0)))
  (xb1 (b8 (xm PySem.F.plainAttrs_list PySem.F.slot_list_extend PySem.F.type_list_extend cZ (xv 2) (xac (xcd D_l_entry_rows hr (xac (xv 5) (xac (xop bp (xv 1) xint) xa0))) xa0))))))
  (xb1 (xret (xv 2))))) ?_
 have hs:sizeLine=16777216:=sizeLine_eq
 obtain⟨l,xs,rfl,el,da⟩:=bg dv
 have hlen:xs.length=es.length:=by rw[da.len,l6]
 rw[show aS ["_law_entries_here","_law_deep","_law_rows_here","_law_sign","_law_parts_here","_law_within"] [V.ref l,V.int d]=[some (V.ref l),some (V.int d),none,none,none,none] from rfl]
 refine bJ λU0 eU=>?_
 refine⟨big (show (0:Nat)<=1000000 by decide),λr hr0=>?_⟩
 have s1:=ac hr0 (.lst [])
 have e1:upd H r (.lst []) r=some (.lst []):=aa
 dsimp only[av,sA,sB]
 refine eU _ _ _ ?_
 generalize upd H r (.lst [])=H1 at s1 e1 ⊢
 refine⟨_,rfl,l,rfl,⟨_,SqL.of (s1 _ _ el)⟩,?_⟩
 have h0:bo n (ahC d) []=[]:=by cases n <;> rfl
 refine bN (xs:=xs) (λi σ H'=>∃x3 x4 x5,σ=[some (.ref l),some (.int d),some (.ref r),x3,x4,x5]/\Same H H'/\H' r=some (.lst ((bo n (ahC d) (es.take i)).map vS))) ⟨none,none,none,rfl,s1,by rw[List.take_zero,h0];exact e1⟩ ?_ ?_ ?_
 ·rintro i σ H3 _ ⟨_,_,_,_,s3,_⟩
  exact SqL.of (s3 _ _ el)
 ·rintro i x σ H3 hx ⟨x3,x4,x5,rfl,s3,e3⟩
  obtain⟨dd,hdi,hdx⟩:=da.getV hx
  rw[List.getElem?_map] at hdi
  obtain⟨en,hei,rfl⟩:=l52.mp hdi
  have hm:=l17 hei
  cases n with
  |zero=>exact nomatch en
  |succ m=>
   obtain⟨hstep,z,hz⟩:=mW (ah:=ahC d) hei
   obtain⟨b0,ys,rfl,eb,dy⟩:=kH hdx
   obtain⟨y0,ys,rfl,d0,dy⟩:=ak dy
   obtain⟨y1,ys,rfl,d1,dy⟩:=ak dy
   obtain⟨y2,ys,rfl,d2,dy⟩:=ak dy
   cases fI dy
   cases aZ d0
   obtain⟨hps2,hwl,hw⟩:=hok en hm
   have hsub:∀r0∈(ahC d++bI (EnF.sign en)++[32]++raws false (EnF.parts en))::bo m (ahC d++[32,32]) (EnF.within en),r0.length<=100000/\Asc r0:=λr0 hr=>hro.2 r0 (by rw[hz,hstep];exact l44 _ (l30 _ hr))
   have hcnt:=hro.1
   rw[hz,hstep,l5,l5,l8] at hcnt
   have hrow:=(hsub _ l13).1
   simp only[l5,l8,l23] at hrow
   rw[hstep]
   refine⟨b0,_,rfl,SqT.of (s3 _ _ eb),rfl,_,_,rfl,_,_,rfl,_,_,rfl,rfl,?_⟩
   dsimp only[av,sA,sB]
   refine⟨_,rfl, .inl ⟨rfl,_,SqL.of e3⟩,?_⟩
   refine fH (aH (aH (a:=ahC d) (b:=bI (EnF.sign en)) (λR rr=>⟨_,rfl,_,_,rfl,rfl,by decide,by omega,by omega,by rw[mul2 (by omega)];exact rr⟩) (ev_v rfl) (by omega)) (aN (b:=[32]) rfl) (by simp;omega)) (ev_v (v:=y1) rfl) ⟨_,_,rfl,d1.same s3,hps2.r2,by omega,λH4 s4=>⟨_,_,rfl,rfl,by rw[am,am,sizeLine_eq];simp;omega,?_⟩⟩
   rw[bb]
   refine⟨r,_,_,rfl,rfl,s4 _ _ e3,by rw[l6,hs];omega,?_⟩
   have s5:Same H (upd H4 r (.lst ((bo (m+1) (ahC d) (es.take i)).map vS++[vS (ahC d++bI (EnF.sign en)++[32]++raws false (EnF.parts en))]))):=au hr0 (s3.trans s4)
   have e5:upd H4 r (.lst ((bo (m+1) (ahC d) (es.take i)).map vS++[vS (ahC d++bI (EnF.sign en)++[32]++raws false (EnF.parts en))])) r=some (.lst ((bo (m+1) (ahC d) (es.take i)).map vS++[vS (ahC d++bI (EnF.sign en)++[32]++raws false (EnF.parts en))])):=aa
   dsimp only
   generalize upd H4 r (.lst ((bo (m+1) (ahC d) (es.take i)).map vS++[vS (ahC d++bI (EnF.sign en)++[32]++raws false (EnF.parts en))]))=H5 at s5 e5 ⊢
   refine⟨_,rfl, .inl ⟨rfl,_,SqL.of e5⟩,?_⟩
   rw[m7] at hsub hcnt
   refine qo (x:=y2) (y := .int ((d+1:Nat):Int)) (ev_v rfl) (λR rr=>⟨_,rfl,_,_,rfl,rfl,rr⟩) (hI _ _ _ _ ⟨_,_,_,rfl,d2.same s5,by omega,hwl,hw,⟨by omega,λr0 hr=>hsub r0 (l15 _ hr)⟩,λr2 H6 s6 hr2 e6=>?_⟩)
   refine⟨r,r2,_,_,rfl,rfl,s6 _ _ e5,e6,by rw[l5,l6,l6,hs];show _+1+_<=_;omega,_,_,_,rfl,au hr0 (s5.trans s6),?_⟩
   rw[aa,l16,l19,l24,m7]
   rfl
 ·rintro σ H3 ⟨x3,x4,x5,rfl,s3,e3⟩
  rw[hlen,l40] at e3
  exact⟨_,rfl,q r H3 s3 hr0 e3⟩
end
theorem aq {te:TE}{A u:TS}{D:Ends}{σ:St}{H0 H:Hp}{k y:Str}(s:Same H0 H)(ev:∀H',Same H0 H'->Ev te σ H' (.str k))(hk:k≠y)(h:∀H',Same H0 H'->u D σ H'):tSeq (tIfS (bH (tOp rEq te (tC (.str y)))) A a9) u D σ H:=
 s_if (D:={ D with nx:=u D }) (g:=a9) (decide (k=y)) (lj (ev H s) ev_c) (λ_ _ z=>absurd (of_decide_eq_true z) hk) λH' s' _=>h H' (s.trans s')
theorem bK {te:TE}{A u:TS}{D:Ends}{σ:St}{H0 H:Hp}{k y:Str}(s:Same H0 H)(ev:∀H',Same H0 H'->Ev te σ H' (.str k))(hk:k=y)(h:∀H',Same H0 H'->A { D with nx:=u D } σ H'):tSeq (tIfS (bH (tOp rEq te (tC (.str y)))) A a9) u D σ H:=
 s_if (D:={ D with nx:=u D }) (g:=a9) (decide (k=y)) (lj (ev H s) ev_c) (λH' s' _=>h H' (s.trans s')) λ_ _ z=>absurd hk (of_decide_eq_false z)
theorem jm {G:Hp}:∀{ls:List (List Nat)} {xs:List V},DnAll G xs (ls.map λl => .str (S l))->xs=ls.map vS
 | [],_,h=>fI h
 |_::_,_,h=>by
  obtain⟨v,us,rfl,d,r⟩:=ak h
  cases aZ d
  rw[jm r]
  rfl
section
variable {β:Type}
abbrev m8:Stmt:=top 80
theorem scLRows:FnScope ["_law_block_here","_law_raw_here"] ["_law_block_here"] (ad m8):=mkS
def jn (g:β->PyData)(fr:β->List (List Nat))(ok:β->Prop):Sp:=λvs H Q _=>∃(v:V) (b:β),vs=[v]/\Dn H v (g b)/\ok b/\RowsOk (fr b)/\∀r H',Same H H'->H r=none->H' r=some (.lst ((fr b).map vS))->Q (.ref r) H'
def oA (g:β->PyData)(fr:β->List (List Nat))(ok:β->Prop):Sp:=λvs H Q _=>∃(v:V) (bs:List β),vs=[v]/\Dn H v (.list (bs.map g))/\bs.length<=1000/\(∀b∈bs,ok b)/\RowsOk (betw (bs.map fr))/\∀r H',Same H H'->H r=none->H' r=some (.lst ((betw (bs.map fr)).map vS))->Q (.ref r) H'
theorem m9 {m:Nat}{spI:Sp}{g:β->PyData}{fr:β->List (List Nat)}{ok:β->Prop}(F:Fun K "_law_rows" "_law_rows" m8 f fd)(T:TxD mg)(hm:4<=m)(D_l_raw:Def P w K mg base m "_law_raw" ["_law_parts_here"] (gX R2))(D_sort_of:Def P w K mg base 4 "sort_of" ["row"] (mE K))(D_l_entry_rows:Def P w K mg base m "_law_entry_rows" p23 (spER 6))(D_l_table_rows:Def P w K mg base m "_law_table_rows" ["_law_block_here"] spTR)
  (D_l_all_rows:Def P w K mg base m "_law_all_rows" ["_law_blocks_here"] spI)(hI:∀b:β,∀vs H Q E,oA g fr ok vs H Q E->spI vs H Q E):FnOk P w K mg base CX0 (m+2) f fd ["_law_block_here"] (jn (dBF g) (fM aL fr) (OkBF ok)):=by
 have sc:=scLRows
 refine F.oks sc λcdv A outer s H vs Q E hr h=>?_
 obtain⟨v,b,rfl,dv,hok,hro,q⟩:=h
 have hs:sizeLine=16777216:=sizeLine_eq
 have hu:(A.deeper (PyProof.Rows.envOfC "_law_rows" (ad m8) s.heap.objs.size f cdv)).units+64 < cLine:=by
  have:=hr.un
  omega
 refine ao (xbc (xif (aw aD (xix al (xv 0) xint (λ_ _=>rfl)) xstr (ai _)) (xb1 (xret (xlst (xac (xop ae (xop ae (xop dz xstr (xix al (xv 0) xint (λ_ _=>rfl))) xstr) (xcd D_l_raw hr (xac (xix al (xv 0) xint (λ_ _=>rfl)) xa0))) xa0)))) xb0)
  (xbc (xif (aw aD (xix al (xv 0) xint (λ_ _=>rfl)) xstr (ai _)) (xbc (xset (i:=1) sc.nd rfl (Or.inl rfl) (xcd D_l_raw hr (xac (xix al (xv 0) xint (λ_ _=>rfl)) xa0)))
  (xb1 (xret (xlst (xac (xop ae (xop dz xstr (xcTy bO T.n_int rfl (xac (xcmp jx (xix al (xcd D_sort_of hr (xac (xv 1) xa0)) xint (λ_ _=>rfl)) xstr (ai _)) xa0))) (xv 1)) xa0))))) xb0)
  (xbc (xif (aw aD (xix al (xv 0) xint (λ_ _=>rfl)) xstr (ai _)) (xb1 (xret (xcd D_l_entry_rows hr (xac (xix al (xv 0) xint (λ_ _=>rfl)) (xac xint xa0))))) xb0)
  (xbc (xif (aw aD (xix al (xv 0) xint (λ_ _=>rfl)) xstr (ai _)) (xb1 (xret (xcd D_l_table_rows hr (xac (xv 0) xa0)))) xb0)
  (xbc (xif (aw aD (xix al (xv 0) xint (λ_ _=>rfl)) xstr (ai _)) (xb1 (xret (xop fJ (xop fJ (xlst (xac xstr xa0)) (xix al (xv 0) xint (λ_ _=>rfl))) (xlst (xac xstr xa0))))) xb0)
  (xbc (xif (aw aD (xix al (xv 0) xint (λ_ _=>rfl)) xstr (ai _)) (xb1 (xret (xlst (xac (xop ae (xop ae (xop ae xstr (xix al (xv 0) xint (λ_ _=>rfl))) xstr) (xix al (xv 0) xint (λ_ _=>rfl))) xa0)))) xb0)
  (xbc (xif (aw aD (xix al (xv 0) xint (λ_ _=>rfl)) xstr (ai _)) (xb1 (xret (xlst (xac (xop ae (xop ae (xop ae xstr (xix al (xv 0) xint (λ_ _=>rfl))) xstr) (xcd D_l_raw hr (xac (xix al (xv 0) xint (λ_ _=>rfl)) xa0))) xa0)))) xb0)
  (xbc (xif (aw (jY hu) (xix al (xv 0) xint (λ_ _=>rfl)) (xlst xa0) (ai _)) (xb1 (xret (xlst (xac xstr xa0)))) xb0)
  (xb1 (xret (xlc (cl:=[]) (own:=["_law_row"]) (fr:=[]) (N':=["_law_row"]) rfl (bw (xs:=[]) trivial trivial (by decide +kernel)) (by decide +kernel) (by decide +kernel) (by with_unfolding_all rfl)
  (xil (xcd D_l_all_rows hr (xac (xix al (xv 0) xint (λ_ _=>rfl)) xa0)))
  (λ_ _ _ _=>xgn (i:=0) (show (["_law_row"]:List Str).Nodup by decide +kernel) rfl (Or.inl rfl)) (λ_ _ _ _=>xq0) (λ_ _ _ _=>(xop ae (xop ae xstr (xix iO (xlst (xac xstr (xac xstr xa0))) (xcTy bO T.n_int rfl (xac (xcmp aD (xv 0) xstr (ai _)) xa0)) (λ_ _=>rfl))) (xv 0)))))))))))))) ?_
 rw[show aS ["_law_block_here","_law_raw_here"] [v]=[some v,none] from rfl]
 obtain⟨b0,ys,rfl,eb,dy⟩:∃b0 ys,v = .ref b0/\H b0=some (.tup ys)/\∃ds,dBF g b = .tuple ds/\DnAll H ys ds:=by
  cases b <;> exact let ⟨b0,ys,e,eb,dy⟩:=kH dv;⟨b0,ys,e,eb,_,rfl,dy⟩
 have evx:∀{j:Nat} {y:V},ys[j]? = some y->∀H',Same H H'->Ev (tOp (rIxT K) (tVar 0) (tC (.int j))) [some (.ref b0),none] H' y:=λhj H' s'=>cj (ev_v rfl) ev_c (SqT.of (s' _ _ eb)) (aC hj)
 obtain⟨ds,hds,dy⟩:=dy
 refine gen7 λB0 B1 B2 B3 B4 B5 B6 U0 e0 e1 e2 e3 e4 e5 e6 eU=>?_
 cases b with
 |heading n ps=>
  cases hds
  obtain⟨y0,ys,rfl,d0,dy⟩:=ak dy
  obtain⟨y1,ys,rfl,d1,dy⟩:=ak dy
  obtain⟨y2,ys,rfl,d2,dy⟩:=ak dy
  cases aZ d0
  cases d1
  refine bK (Same.refl H) (evx (j:=0) rfl) rfl λH1 s1=>?_
  refine e0 _ _ _ ?_
  have hn:n<=3:=hok.1
  have hps2:OkPs ps:=hok.2
  have hl:=dj hro
  simp only[l5,l8,l23] at hl
  have hmul:Ev (tOp (λx y H Q=>∃z n,x = .str z/\y = .int n/\z.length=1/\0<=n/\n<=1000/\Q (.str (Txt.mul z n)) H) (tC (.str "=")) (tOp (rIxT K) (tVar 0) (tC (.int 1)))) [some (.ref b0),none] H1 (vS (List.replicate n 61)):=λR r=>by
   refine evx (j:=1) rfl H1 s1 _ ⟨_,_,rfl,rfl,rfl,by omega,by omega,?_⟩
   rw[show Txt.mul (Str.ofString "=") (n:Int)=S (List.replicate n 61) from iY 61 n]
   exact r
  refine lR ?_
  refine fH (aH hmul (aN (b:=[32]) rfl) (by simp;omega)) (evx (j:=2) rfl H1 s1) ⟨_,ps,rfl,d2.same s1,hps2.r2,by omega,λH2 s2=>⟨_,_,rfl,rfl,by rw[am,am,sizeLine_eq];simp;omega,big (show (1:Nat)<=1000000 by decide),λt ht=>?_⟩⟩
  rw[bb]
  exact q t _ ((s1.trans s2).trans (ac ht _)) ((s1.trans s2).free ht) aa
 |para ps=>
  cases hds
  obtain⟨y0,ys,rfl,d0,dy⟩:=ak dy
  obtain⟨y1,ys,rfl,d1,dy⟩:=ak dy
  cases aZ d0
  refine aq (Same.refl H) (evx (j:=0) rfl) (by decide +kernel) λH1 s1=>bK s1 (evx (j:=0) rfl) rfl λH1 s1=>?_
  refine e1 _ _ _ ?_
  have hps2:OkPs ps:=hok
  have hl:(if aL (raws false ps) then raws false ps else 92::raws false ps).length<=100000:=dj hro
  have hl2:(raws false ps).length<=100000:=by
   split at hl
   ·exact hl
   ·rw[l8] at hl;omega
  refine evx (j:=1) rfl H1 s1 _ ⟨_,ps,rfl,d1.same s1,hps2.r2,hl2,λH2 s2=>?_⟩
  have q:∀r H',Same H H'->H r=none->H' r=some (.lst [vS (if aL (raws false ps) then raws false ps else 92::raws false ps)])->Q (.ref r) H':=q
  dsimp only[av,sA,sB]
  generalize raws false ps=rw0 at hl2 q ⊢
  refine⟨_,rfl,rw0,rfl,by omega,λp H3 s3 hp=>?_⟩
  obtain⟨ys,ep,_,_⟩:=hp.parts
  refine⟨p,_,0,_,rfl,rfl,SqT.of ep,aC (j:=0) rfl,rfl, .inr ⟨_,rfl,?_⟩⟩
  have hd:(!decide (vS (kindW (fP rw0))=V.str (Str.ofString "plain"))) = !aL rw0:=by
   unfold aL
   congr 1
   exact decide_eq_decide.mpr ⟨λz=>hZ (V.str.inj z),λz=>by rw[z];rfl⟩
  rw[hd]
  have s13:=(s1.trans s2).trans s3
  cases hpl:aL rw0 with
  |true=>
   rw[hpl] at q
   refine⟨_,_,rfl,rfl,rfl,by decide,by decide,_,rfl,_,_,rfl,rfl,?_,big (show (1:Nat)<=1000000 by decide),λt ht=>?_⟩
   ·show (Txt.mul (S [92]) ((0:Nat):Int)).length+(S rw0).length<=_
    rw[iY,am,am,hs]
    show 0+_<=_
    omega
   ·have e:Txt.mul (Str.ofString "\\") (if (!true)=true then 1 else 0)++S rw0=S rw0:=by
     show Txt.mul (S [92]) ((0:Nat):Int)++S rw0=S rw0
     rw[iY,bb]
     rfl
    rw[e]
    exact q t _ (s13.trans (ac ht _)) (s13.free ht) aa
  |false=>
   rw[hpl] at q
   refine⟨_,_,rfl,rfl,rfl,by decide,by decide,_,rfl,_,_,rfl,rfl,?_,big (show (1:Nat)<=1000000 by decide),λt ht=>?_⟩
   ·show (Txt.mul (S [92]) ((1:Nat):Int)).length+(S rw0).length<=_
    rw[iY,am,am,hs]
    show 1+_<=_
    omega
   ·have e:Txt.mul (Str.ofString "\\") (if (!false)=true then 1 else 0)++S rw0=S (92::rw0):=by
     show Txt.mul (S [92]) ((1:Nat):Int)++S rw0=S (92::rw0)
     rw[iY,bb]
     rfl
    rw[e]
    exact q t _ (s13.trans (ac ht _)) (s13.free ht) aa
 |lst es=>
  cases hds
  obtain⟨y0,ys,rfl,d0,dy⟩:=ak dy
  obtain⟨y1,ys,rfl,d1,dy⟩:=ak dy
  cases aZ d0
  refine aq (Same.refl H) (evx (j:=0) rfl) (by decide +kernel) λH1 s1=>aq s1 (evx (j:=0) rfl) (by decide +kernel) λH1 s1=>bK s1 (evx (j:=0) rfl) rfl λH1 s1=>?_
  refine e2 _ _ _ ?_
  exact evx (j:=1) rfl H1 s1 _ ⟨_,es,0,rfl,d1.same s1,by decide,hok.1,hok.2,hro,λr H' s' hr e=>q r H' (s1.trans s') (s1.free hr) e⟩
 |table hd sd ls=>
  have dv0:=dv
  cases hds
  obtain⟨y0,ys,rfl,d0,dy⟩:=ak dy
  cases aZ d0
  refine aq (Same.refl H) (evx (j:=0) rfl) (by decide +kernel) λH1 s1=>aq s1 (evx (j:=0) rfl) (by decide +kernel) λH1 s1=>aq s1 (evx (j:=0) rfl) (by decide +kernel) λH1 s1=>bK s1 (evx (j:=0) rfl) rfl λH1 s1=>?_
  refine e3 _ _ _ ?_
  obtain⟨o1,o2,o3,o4⟩:=hok
  exact⟨_,rfl,_,hd,sd,ls,rfl,dv0.same s1,λps hp=>(o1.2 ps hp).r2,λl hl ps hp=>((o4 l hl).2 ps hp).r2,o3,o2,hro,λr H' s' hr e=>q r H' (s1.trans s') (s1.free hr) e⟩
 |lit ls=>
  cases hds
  obtain⟨y0,ys,rfl,d0,dy⟩:=ak dy
  obtain⟨y1,ys,rfl,d1,dy⟩:=ak dy
  cases aZ d0
  refine aq (Same.refl H) (evx (j:=0) rfl) (by decide +kernel) λH1 s1=>aq s1 (evx (j:=0) rfl) (by decide +kernel) λH1 s1=>aq s1 (evx (j:=0) rfl) (by decide +kernel) λH1 s1=>aq s1 (evx (j:=0) rfl) (by decide +kernel) λH1 s1=>bK s1 (evx (j:=0) rfl) rfl λH1 s1=>?_
  refine e4 _ _ _ ?_
  obtain⟨l,xs,rfl,el,dx⟩:=bg d1
  cases jm dx
  have hll:ls.length<=1000:=hok.1
  refine⟨big (show (1:Nat)<=1000000 by decide),λo1 ho1=>?_⟩
  have so:=ac ho1 (.lst [V.str "~~~"])
  have eo:upd H1 o1 (.lst [V.str "~~~"]) o1=some (.lst [V.str "~~~"]):=aa
  generalize upd H1 o1 (.lst [V.str "~~~"])=H2 at so eo ⊢
  have s2:=s1.trans so
  refine evx (j:=1) rfl H2 s2 _ ⟨o1,l,_,_,rfl,rfl,eo,s2 _ _ el,by rw[hs,l6];show 1+_<=_;omega,λp hp=>?_⟩
  have sp:=ac hp (.lst ([V.str "~~~"]++ls.map vS))
  have ep:upd H2 p (.lst ([V.str "~~~"]++ls.map vS)) p=some (.lst ([V.str "~~~"]++ls.map vS)):=aa
  generalize upd H2 p (.lst ([V.str "~~~"]++ls.map vS))=H3 at sp ep ⊢
  refine⟨big (show (1:Nat)<=1000000 by decide),λo2 ho2=>?_⟩
  have so2:=ac ho2 (.lst [V.str "~~~"])
  have eo2:upd H3 o2 (.lst [V.str "~~~"]) o2=some (.lst [V.str "~~~"]):=aa
  refine⟨p,o2,_,_,rfl,rfl,so2 _ _ ep,eo2,by rw[hs,l5,l6];show 1+_+1<=_;omega,λp2 hp2=>?_⟩
  have s4:=(s2.trans sp).trans so2
  refine q p2 _ (s4.trans (ac hp2 _)) (s4.free hp2) ?_
  rw[aa]
  congr 2
  show _=([[126,126,126]]++ls++[[126,126,126]]).map vS
  rw[l16,l16]
  rfl
 |quote bs=>
  cases hds
  obtain⟨y0,ys,rfl,d0,dy⟩:=ak dy
  obtain⟨y1,ys,rfl,d1,dy⟩:=ak dy
  cases aZ d0
  refine aq (Same.refl H) (evx (j:=0) rfl) (by decide +kernel) λH1 s1=>aq s1 (evx (j:=0) rfl) (by decide +kernel) λH1 s1=>aq s1 (evx (j:=0) rfl) (by decide +kernel) λH1 s1=>aq s1 (evx (j:=0) rfl) (by decide +kernel) λH1 s1=>aq s1 (evx (j:=0) rfl) (by decide +kernel) λH1 s1=>aq s1 (evx (j:=0) rfl) (by decide +kernel) λH1 s1=>aq s1 (evx (j:=0) rfl) (by decide +kernel) λH1 s1=>?_
  refine eU _ _ _ ?_
  obtain⟨l,xs,rfl,el,dx⟩:=bg d1
  refine s_ifE (evx (j:=1) rfl H1 s1) ⟨big (show (0:Nat)<=1000000 by decide),λo ho=>?_⟩
  have so:=ac ho (.lst [])
  have eo:upd H1 o (.lst []) o=some (.lst []):=aa
  generalize upd H1 o (.lst [])=H2 at so eo ⊢
  have s2:=s1.trans so
  refine⟨l,o,xs,rfl,rfl,SqL.of (s2 _ _ el),SqL.of eo,_,rfl,?_⟩
  cases bs with
  |nil=>
   cases fI dx
   refine iteT ⟨big (show (1:Nat)<=1000000 by decide),λp hp=>q p _ (s2.trans (ac hp _)) (s2.free hp) aa⟩
  |cons b1 br=>
   obtain⟨x1,xr,rfl,_,_⟩:=ak dx
   refine iteF ?_
   have hro:RowsOk ((betw ((b1::br).map fr)).map fb):=hro
   have q:∀r H',Same H H'->H r=none->H' r=some (.lst (((betw ((b1::br).map fr)).map fb).map vS))->Q (.ref r) H':=q
   dsimp only[a9]
   refine evx (j:=1) rfl H2 s2 _ (hI b1 _ _ _ _ ⟨_,b1::br,rfl,d1.same s2,hok.1,hok.2,hro.unq,λr H3 s3 hr e3=>?_⟩)
   generalize betw ((b1::br).map fr)=rws at hro q e3
   refine⟨r,rfl,⟨_,SqL.of e3⟩,?_⟩
   have hrl:=hro.1
   rw[l6] at hrl
   refine cw (rws.map fb) (SqL.of e3) (by rw[l6,l6]) (by rw[l6];omega) ?_ λD H4 hD s4 e4=>q D H4 ((s2.trans s3).trans s4) ((s2.trans s3).free hD) e4
   intro i x tx hx htx H4 s4 C N hC
   rw[List.getElem?_map] at hx htx
   obtain⟨rw1,hr1,rfl⟩:=l52.mp hx
   rw[hr1] at htx
   cases htx
   have hlq:=(hro.2 _ (l48 (l17 hr1))).1
   refine⟨(nfLe.refl _ _ _).set (by decide) _,iteT (B:=N H4) ?_⟩
   refine pick2 (b:=decide (rw1=[])) (λH' s'=>ev_eq (b:=[]) (ev_v rfl) (aN rfl)) λH5 s5=>?_
   unfold fb at hlq hC
   by_cases z:rw1=[]
   ·subst z
    exact⟨_,_,rfl,rfl,by decide,_,rfl,_,_,rfl,rfl,by decide,hC H5 s5⟩
   ·rw[if_neg z] at hlq hC
    rw[decide_eq_false z]
    have hlq:2+rw1.length<=100000:=by rwa [l5] at hlq
    refine⟨_,_,rfl,rfl,by decide,_,rfl,_,_,rfl,rfl,by show 2+(S rw1).length<=_;rw[am,hs];omega,?_⟩
    rw[show (Str.ofString ">"++Str.ofString " ")++S rw1=S ([62,32]++rw1) from bb [62,32] rw1]
    exact hC H5 s5
 |name n t=>
  cases hds
  obtain⟨y0,ys,rfl,d0,dy⟩:=ak dy
  obtain⟨y1,ys,rfl,d1,dy⟩:=ak dy
  obtain⟨y2,ys,rfl,d2,dy⟩:=ak dy
  cases aZ d0
  cases aZ d1
  cases aZ d2
  refine aq (Same.refl H) (evx (j:=0) rfl) (by decide +kernel) λH1 s1=>aq s1 (evx (j:=0) rfl) (by decide +kernel) λH1 s1=>aq s1 (evx (j:=0) rfl) (by decide +kernel) λH1 s1=>aq s1 (evx (j:=0) rfl) (by decide +kernel) λH1 s1=>aq s1 (evx (j:=0) rfl) (by decide +kernel) λH1 s1=>bK s1 (evx (j:=0) rfl) rfl λH1 s1=>?_
  refine e5 _ _ _ ?_
  have hl:=dj hro
  simp only[l5,l8,l23] at hl
  refine lR ?_
  exact aH (aH (aH (aN (b:=[91]) rfl) (evx (j:=1) (y:=vS n) rfl H1 s1) (by simp;omega)) (aN (b:=[93,58,32]) rfl) (by simp;omega)) (evx (j:=2) (y:=vS t) rfl H1 s1) (by simp;omega) _ ⟨big (show (1:Nat)<=1000000 by decide),λp hp=>q p _ (s1.trans (ac hp _)) (s1.free hp) aa⟩
 |note n ps=>
  cases hds
  obtain⟨y0,ys,rfl,d0,dy⟩:=ak dy
  obtain⟨y1,ys,rfl,d1,dy⟩:=ak dy
  obtain⟨y2,ys,rfl,d2,dy⟩:=ak dy
  cases aZ d0
  cases aZ d1
  refine aq (Same.refl H) (evx (j:=0) rfl) (by decide +kernel) λH1 s1=>aq s1 (evx (j:=0) rfl) (by decide +kernel) λH1 s1=>aq s1 (evx (j:=0) rfl) (by decide +kernel) λH1 s1=>aq s1 (evx (j:=0) rfl) (by decide +kernel) λH1 s1=>aq s1 (evx (j:=0) rfl) (by decide +kernel) λH1 s1=>aq s1 (evx (j:=0) rfl) (by decide +kernel) λH1 s1=>bK s1 (evx (j:=0) rfl) rfl λH1 s1=>?_
  refine e6 _ _ _ ?_
  have hps2:OkPs ps:=hok.2
  have hl:=dj hro
  simp only[l5,l8,l23] at hl
  refine lR ?_
  refine fH (aH (aH (aN (b:=[91,94]) rfl) (evx (j:=1) (y:=vS n) rfl H1 s1) (by simp;omega)) (aN (b:=[93,58,32]) rfl) (by simp;omega)) (evx (j:=2) rfl H1 s1) ⟨_,ps,rfl,d2.same s1,hps2.r2,by omega,λH2 s2=>⟨_,_,rfl,rfl,by rw[am,am,sizeLine_eq];simp;omega,big (show (1:Nat)<=1000000 by decide),λt ht=>?_⟩⟩
  rw[bb]
  exact q t _ ((s1.trans s2).trans (ac ht _)) ((s1.trans s2).free ht) aa
end
theorem betw_pre (xs ys:List (List (List Nat))):(betw xs).length<=(betw (xs++ys)).length:=by
 induction ys generalizing xs with
 |nil=>rw[l31];exact l7 _
 |cons y ys ih=>
  have h1:=ih (xs++[y])
  rw[cb,l24] at h1
  rw[show xs++y::ys=xs++([y]++ys) from rfl]
  rw[l5] at h1
  omega
section
variable {β:Type}
abbrev sAll:Stmt:=top 81
theorem scAll:FnScope ["_law_blocks_here","_law_rows_here","_law_k"] ["_law_blocks_here"] (ad sAll):=mkS
theorem ok_all {m:Nat}{g:β->PyData}{fr:β->List (List Nat)}{ok:β->Prop}(F:Fun K "_law_all_rows" "_law_all_rows" sAll f fd)(T:TxD mg)(D_l_rows:Def P w K mg base m "_law_rows" ["_law_block_here"] (jn g fr ok)):FnOk P w K mg base CX0 (m+2) f fd ["_law_blocks_here"] (oA g fr ok):=by
 have sc:=scAll
 refine F.oks sc λcdv A outer s H vs Q E hr h=>?_
 obtain⟨v,bs,rfl,dv,hbl,hok,hro,q⟩:=h
 refine ao (xbc (xset (i:=1) sc.nd rfl (Or.inl rfl) (xlst xa0))
  (xbc (xfor PassesOwn.never rfl (xir1 rfl T.n_range (xac (xcB bQ T.n_len PySem.boot_len (xac (xv 0) xa0)) xa0)) (xgn (i:=2) sc.nd rfl (Or.inl rfl))
  (xb1 (b8 (xm PySem.F.plainAttrs_list PySem.F.slot_list_extend PySem.F.type_list_extend cZ (xv 1) (xac (xop fJ (xop op_rep (xlst (xac xstr xa0)) (xcTy bO T.n_int rfl (xac (xcmp hV (xv 2) xint (ai _)) xa0))) (xcd D_l_rows hr (xac (xix aU (xv 0) (xv 2) (λ_ _=>rfl)) xa0))) xa0)))))
  (xb1 (xret (xv 1))))) ?_
 have hs:sizeLine=16777216:=sizeLine_eq
 obtain⟨l,xs,rfl,el,da⟩:=bg dv
 have hlen:xs.length=bs.length:=by rw[da.len,l6]
 rw[show aS ["_law_blocks_here","_law_rows_here","_law_k"] [V.ref l]=[some (V.ref l),none,none] from rfl]
 refine bJ λU0 eU=>?_
 refine⟨big (show (0:Nat)<=1000000 by decide),λr hr0=>?_⟩
 have s1:=ac hr0 (.lst [])
 have e1:upd H r (.lst []) r=some (.lst []):=aa
 dsimp only[av,sA,sB]
 refine eU _ _ _ ?_
 generalize upd H r (.lst [])=H1 at s1 e1 ⊢
 refine⟨_,rfl,l,_,rfl, .inl (SqL.of (s1 _ _ el)),_,rfl,by omega,by omega,?_⟩
 rw[l34]
 refine cF (n:=xs.length) (λi σ H'=>∃x2,σ=[some (.ref l),some (.ref r),x2]/\Same H H'/\H' r=some (.lst ((betw ((bs.take i).map fr)).map vS))) ⟨none,rfl,s1,e1⟩ ?_ ?_
 ·rintro i σ H3 hi ⟨x2,rfl,s3,e3⟩
  have hbi:bs[i]? = some bs[i]:=List.getElem?_eq_getElem (by omega)
  generalize bs[i]=b at hbi
  have hm:=l17 hbi
  obtain⟨x,hx,dx⟩:=da.get (i:=i) (d:=g b) (by rw[List.getElem?_map,hbi];rfl)
  have etk:(bs.take (i+1)).map fr=(bs.take i).map fr++[fr b]:=by rw[l42,hbi,l16];rfl
  have hpre:(betw ((bs.take (i+1)).map fr)).length<=(betw (bs.map fr)).length:=by
   have h2:=betw_pre ((bs.take (i+1)).map fr) ((bs.drop (i+1)).map fr)
   rwa [<- l16,l58] at h2
  have hro1:=hro.1
  rw[etk,cb]
  rw[etk,cb,l5,l5] at hpre
  dsimp only[av,sA,sB]
  refine⟨_,rfl, .inl ⟨rfl,_,SqL.of e3⟩,big (show (1:Nat)<=1000000 by decide),λo ho=>?_⟩
  have so:=ac ho (.lst [V.str ""])
  have eo:upd H3 o (.lst [V.str ""]) o=some (.lst [V.str ""]):=aa
  generalize upd H3 o (.lst [V.str ""])=H4 at so eo ⊢
  have hk:∃k:Nat,(if decide ((0:Int) < 0+(i:Int))=true then 1 else 0:Int)=(k:Int)/\k<=1/\(List.replicate k [V.str ""]).flatten=(if ((bs.take i).map fr).isEmpty then [] else [[]]:List (List Nat)).map vS:=by
   by_cases z:i=0
   ·subst z;exact⟨0,rfl,by decide,rfl⟩
   ·refine⟨1,by rw[decide_eq_true (by omega)];rfl,l7 _,?_⟩
    rw[if_neg]
    ·rfl
    ·rw[l64]
     intro y
     have:=congrArg List.length y
     rw[l6,l33] at this
     have:min i bs.length=0:=this
     omega
  obtain⟨k,hke,hk1,hkl⟩:=hk
  refine⟨_,rfl,_,_,rfl,rfl, .inr ⟨_,rfl,o,k,_,rfl,congrArg V.int hke,eo,by omega,by omega,by rw[hs];show 1 * _<=_;omega,λp hp=>?_⟩⟩
  rw[l34,hkl]
  generalize (if ((bs.take i).map fr).isEmpty then [] else [[]]:List (List Nat))=pre at hpre ⊢
  have sp:=ac hp (.lst (pre.map vS))
  have ep:upd H4 p (.lst (pre.map vS)) p=some (.lst (pre.map vS)):=aa
  generalize upd H4 p (.lst (pre.map vS))=H5 at sp ep ⊢
  have s5:=s3.trans (so.trans sp)
  refine⟨_,rfl,_,rfl,l,xs,_,x,rfl,rfl,SqL.of (s5 _ _ el),?_,x,b,rfl,dx.same s5,hok b hm,hro.sub (l48 hm),λr2 H6 s6 hr2 e6=>?_⟩
  ·rw[show (0:Int)+(i:Nat)=(i:Int) by omega]
   exact aC hx
  refine⟨p,r2,_,_,rfl,rfl,s6 _ _ ep,e6,by rw[l6,l6,hs];omega,λp2 hp2=>?_⟩
  have s7:=ac hp2 (.lst (pre.map vS++(fr b).map vS))
  have s57:=(so.trans sp).trans (s6.trans s7)
  refine⟨r,p2,_,_,rfl,rfl,s57 _ _ e3,aa,by rw[l5,l6,l6,l6,hs];omega,?_⟩
  refine⟨_,rfl,au hr0 (s3.trans s57),?_⟩
  rw[aa,l16,l16]
 ·rintro σ H3 ⟨x2,rfl,s3,e3⟩
  rw[hlen,l40] at e3
  exact⟨_,rfl,q r H3 s3 hr0 e3⟩
end
theorem bv {W:Addr}{H H':Hp}(k:KeepX W H H'):Same (offX H W) (offX H' W):=λb o e=>by
 unfold offX at e ⊢
 split at e
 ·cases e
 ·rename_i hb
  rw[if_neg hb]
  exact k b o hb e
theorem iH {W:Addr}{H:Hp}:Same (offX H W) H:=λb o e=>by
 unfold offX at e
 split at e
 ·cases e
 ·exact e
def onL (ka:List Addr)(H:Hp):Hp:=λb=>if b∈ka then H b else none
theorem on_at {ka:List Addr}{H:Hp}{b:Addr}(h:b∈ka):onL ka H b=H b:=if_pos h
theorem jo {ka:List Addr}{H:Hp}{b:Addr}{o:HO}(h:onL ka H b=some o):b∈ka/\H b=some o:=by
 unfold onL at h
 split at h
 ·rename_i z;exact⟨z,h⟩
 ·cases h
theorem cV {ka kb:List Addr}{H H':Hp}(hs:∀b∈ka,b∈kb)(k:∀b∈ka,∀o,H b=some o->H' b=some o):Same (onL ka H) (onL kb H'):=λb o e=>by
 obtain⟨hb,e⟩:=jo e
 rw[on_at (hs b hb)]
 exact k b hb o e
def IsK (H:Hp)(a:Addr):Prop:=∃xs:List V,H a=some (.lst xs)/\xs.length<=100000
def Mo2 (R:Hp->Hp->Prop):Prop:=∀F F' G G',Same F F'->Same G G'->R F G->R F' G'
structure Got (W:Addr)(H:Hp)(ka:List Addr)(H':Hp)(R:Hp->Hp->Prop):Prop where
 keep:KeepX W H H'
 new:∀a∈ka,H a=none/\IsK H' a
 q:NewQ H ka H' (R (onL ka H'))
section
variable {W:Addr}{H H1 H2:Hp}{ka kb:List Addr}{R R1 R2:Hp->Hp->Prop}
theorem Got.map (h:Got W H ka H1 R1)(k:∀F G,R1 F G->R F G):Got W H ka H1 R:=⟨h.keep,h.new,h.q.map λG=>k _ G⟩
theorem kI (s:Same H H1)(h:R (onL [] H1) (dif H H1)):Got W H [] H1 R:=⟨λb o _ e=>s b o e,(λ_ z=>nomatch z),dif H H1,dif_same,(λ_ z=>nomatch z),λb hb=>bd hb,h⟩
theorem Got.ne (h:Got W H ka H1 R)(hW:H W≠none){a:Addr}(ha:a∈ka):a≠W:=λz=>hW (z▸(h.new a ha).1)
theorem Got.join (h:Got W H ka H1 R1)(h2:Got W H1 kb H2 R2)(hW:H W≠none)(hW1:H1 W≠none)(m1:Mo2 R1)(m2:Mo2 R2)(k:∀F G,R1 F G->R2 F G->R F G):Got W H (ka++kb) H2 R:=by
 have kp:=h.keep.trans h2.keep
 have hka:∀a∈ka,∀o,H1 a=some o->H2 a=some o:=λa ha o e=>h2.keep a o (h.ne hW ha) e
 refine⟨kp,λa ha=>?_,?_⟩
 ·rcases l18.mp ha with z |z
  ·obtain⟨e,xs,e1,e2⟩:=h.new a z
   exact⟨e,xs,hka a z _ e1,e2⟩
  ·obtain⟨e,xs,e1,e2⟩:=h2.new a z
   exact⟨aB h.keep (h2.ne hW1 z) e,xs,e1,e2⟩
 ·obtain⟨G1,a1,b1,c1,r1⟩:=h.q
  obtain⟨G2,a2,b2,c2,r2⟩:=h2.q
  have q1:NewQ H (ka++kb) H2 λG=>R1 (onL (ka++kb) H2) G:=by
   refine⟨G1,λb o e=>h2.keep b o (λz=>?_) (a1 b o e),λb hb=>?_,c1,m1 _ _ _ _ (cV (λb hb=>l44 _ hb) hka) (Same.refl _) r1⟩
   ·rw[z,c1 W hW] at e;cases e
   ·rcases l18.mp hb with z |z
    ·exact b1 b z
    ·cases e:G1 b with
     |none=>rfl
     |some o=>have:=a1 b o e;rw[(h2.new b z).1] at this;cases this
  have q2:NewQ H (ka++kb) H2 λG=>R2 (onL (ka++kb) H2) G:=by
   refine⟨G2,a2,λb hb=>?_,λb hb=>c2 b (fo h.keep hW1 hb),m2 _ _ _ _ (cV (λb hb=>l30 _ hb) λ_ _ _ e=>e) (Same.refl _) r2⟩
   rcases l18.mp hb with z |z
   ·obtain⟨_,xs,e1,_⟩:=h.new b z
    exact c2 b (by rw[e1];exact λz=>nomatch z)
   ·exact b2 b z
  exact NewQ.join q1 q2 (λG G' s z=>m1 _ _ _ _ (Same.refl _) s z) (λG G' s z=>m2 _ _ _ _ (Same.refl _) s z) λG z1 z2=>k _ G z1 z2
end
def RL {α:Type}(R:Hp->Hp->Addr->α->Prop)(F G:Hp)(r:Addr)(zs:List α):Prop:=∃as:List Addr,F r=some (.lst (as.map V.ref))/\Ls (R F G) as zs
def Mo3 {α:Type}(R:Hp->Hp->Addr->α->Prop):Prop:=∀a z,Mo2 λF G=>R F G a z
theorem fq {α:Type}{R:Hp->Hp->Addr->α->Prop}(m:Mo3 R):Mo3 (RL R):=λa z F F' G G' s1 s2 ⟨as,e,k⟩=>⟨as,s1 _ _ e,k.mono λb x=>m b x _ _ _ _ s1 s2⟩
theorem eg {α:Type}{R:Hp->Hp->Addr->α->Prop}(m:Mo3 R)(as:List Addr)(zs:List α):Mo2 λF G=>Ls (R F G) as zs:=λF F' G G' s1 s2 k=>k.mono λb x=>m b x _ _ _ _ s1 s2
theorem gY {α:Type}{K:PySem.W.Frag}{l W:Addr}{xs:List V}{k:Nat}{fr:List Nat}{g:TG}{tt:TT}{te:TE}{σ:St}{H0:Hp}{Q:Addr->Hp->Prop}{ks:List V}(R:Hp->Hp->Addr->α->Prop)(mR:Mo3 R)(zs:List α)(cst:Nat)(hW:H0 W=some (.lst ks))(hx:H0 l=some (.lst xs))(hlW:l≠W)(hlen:xs.length=zs.length)(hl:zs.length<=100000)
  (ht:∀(i:Nat) x z,xs[i]? = some x->zs[i]? = some z->∀H' ks',KeepX W H0 H'->H' W=some (.lst ks')->ks'.length<=ks.length+cst * i->∀(C:V->Hp->Prop)(N:Hp->Prop),(∀a ka H4,H4 W=some (.lst (ks'++ka.map V.ref))->ka.length<=cst->Got W H' ka H4 (λF G=>R F G a z)->C (.ref a) H4) →
   g x (nfS k fr σ) H' λσ2 H2=>nfLe k fr σ σ2/\tt σ2 H2 λb H3=>if b=true then te σ2 H3 C else N H3)
  (hq:∀D ka H' as,H0 D=none->H' W=some (.lst (ks++ka.map V.ref))->ka.length<=cst * zs.length->D∉ka->H' D=some (.lst (as.map V.ref))->KeepX W H0 H'->(∀a∈ka,H0 a=none/\IsK H' a)->NewQ H0 (D::ka) H' (λG=>Ls (R (onL ka H') G) as zs)->Q D H'):rLC k fr g tt te σ (Itl K l) H0 Q:=by
 intro D hD
 have hWn:H0 W≠none:=by rw[hW];exact λz=>nomatch z
 have hDW:D≠W:=λe=>by rw[e] at hD;exact hWn hD
 refine ⟨λi m acc H=>m=xs.length - i/\i<=xs.length/\H D=some (.lst acc)/\KeepX W H0 H/\∃(as:List Addr) (ka:List Addr),acc=as.map V.ref/\as.length=i/\H W=some (.lst (ks++ka.map V.ref))/\ka.length<=cst * i/\D∉ka/\(∀a∈ka,H0 a=none/\IsK H a)/\NewQ H0 (D::ka) H (λG=>Ls (R (onL ka H) G) as (zs.take i)),
  ⟨xs.length,by simp,l14 _,aa,ag (ac hD _),[],[],rfl,rfl,?_,l14 _,(λz=>nomatch z),(λ_ z=>nomatch z),NewQ.triv trivial⟩,?_⟩
 ·rw[af (Ne.symm hDW),hW];simp
 rintro i m acc H ⟨rfl,hi,hDa,kp,as,ka,rfl,hal,hWa,hkl,hDk,hnew,hn⟩
 refine⟨hDa,?_⟩
 by_cases hlt:i < xs.length
 ·refine .inr ⟨⟨xs,xs[i],SqL.of (kp _ _ hlW hx),by simp[hlt]⟩,λx H' y=>?_⟩
  obtain⟨e,y⟩:=y
  rw[e]
  have hzi:zs[i]? = some zs[i]:=List.getElem?_eq_getElem (by omega)
  have hHW:H W≠none:=by rw[hWa];exact λz=>nomatch z
  refine ht i x _ (y xs (SqL.of (kp _ _ hlW hx))) hzi _ _ kp hWa (by rw[l5,l6];omega) _ _ λa kb H4 hW4 hkb got=>?_
  have hDkb:D∉kb:=λz=>by have:=(got.new D z).1;rw[hDa] at this;cases this
  have hD4:=got.keep _ _ hDW hDa
  have hkaW:∀b∈ka,b≠W:=λb hb z=>hWn (z▸(hnew b hb).1)
  have hkab:∀b∈ka,∀o,H b=some o->H4 b=some o:=λb hb o e=>got.keep b o (hkaW b hb) e
  have hDab:D∉ka++kb:=λz=>(l18.mp z).elim hDk hDkb
  refine⟨hD4,by rw[l6,sizeLine_eq];omega,xs.length - (i+1),by omega,rfl,hlt,aa,?_,as++[a],ka++kb,by rw[l16];rfl,by rw[l5,hal];rfl,?_,?_,hDab,λb hb=>?_,?_⟩
  ·intro b o nb hb
   rw[af (λz=>by rw[z,hD] at hb;cases hb)]
   exact(kp.trans got.keep) b o nb hb
  ·rw[af (Ne.symm hDW),hW4,l16,l24]
  ·rw[l5,Nat.mul_succ];omega
  ·have hbD:b≠D:=λz=>hDab (z▸hb)
   unfold IsK
   rw[af hbD]
   rcases l18.mp hb with z |z
   ·obtain⟨e,ys,e1,e2⟩:=hnew b z
    exact⟨e,ys,hkab b z _ e1,e2⟩
   ·obtain⟨e,ys,e1,e2⟩:=got.new b z
    exact⟨aB kp (got.ne hHW z) e,ys,e1,e2⟩
  ·refine NewQ.upd ?_ l13
   have hF:Same (onL (ka++kb) H4) (onL (ka++kb) (upd H4 D (.lst (as.map V.ref++[.ref a])))):=cV (λ_ h=>h) λb hb o e=>(af (λz:b=D=>hDab (z▸hb))).trans e
   rw[l42,hzi]
   have q1:NewQ H0 (D::(ka++kb)) H4 λG=>Ls (R (onL (ka++kb) H4) G) as (zs.take i):=by
    obtain⟨G1,a1,b1,c1,r1⟩:=hn
    refine⟨G1,λb o e=>got.keep b o (λz=>?_) (a1 b o e),λb hb=>?_,c1,eg mR _ _ _ _ _ _ (cV (λb hb=>l44 _ hb) hkab) (Same.refl _) r1⟩
    ·rw[z,c1 W hWn] at e;cases e
    ·rcases l9.mp hb with z |z
     ·exact b1 b (z▸l13)
     ·rcases l18.mp z with z |z
      ·exact b1 b (l15 _ z)
      ·cases e:G1 b with
       |none=>rfl
       |some o=>have:=a1 b o e;rw[(got.new b z).1] at this;cases this
   have q2:NewQ H0 (D::(ka++kb)) H4 λG=>R (onL (ka++kb) H4) G a zs[i]:=by
    obtain⟨G2,a2,b2,c2,r2⟩:=got.q
    refine⟨G2,a2,λb hb=>?_,λb hb=>c2 b (fo kp hHW hb),mR a _ _ _ _ _ (cV (λb hb=>l30 _ hb) λ_ _ _ e=>e) (Same.refl _) r2⟩
    rcases l9.mp hb with z |z
    ·exact c2 b (by rw[z,hDa];exact λz=>nomatch z)
    ·rcases l18.mp z with z |z
     ·obtain⟨_,ys,e1,_⟩:=hnew b z
      exact c2 b (by rw[e1];exact λz=>nomatch z)
     ·exact b2 b z
   refine NewQ.join q1 q2 (λG G' s z=>eg mR _ _ _ _ _ _ (Same.refl _) s z) (λG G' s z=>mR _ _ _ _ _ _ (Same.refl _) s z) λG z1 z2=>?_
   exact(z1.snoc z2).mono λb x=>mR b x _ _ _ _ hF (Same.refl _)
 ·have e:i=xs.length:=by omega
  subst e
  rw[l41 (by omega)] at hn
  exact .inl ⟨⟨xs,SqL.of (kp _ _ hlW hx),l7 _⟩,hq D ka H as hD hWa (by rw[<- hlen];exact hkl) hDk hDa kp hnew hn⟩
section
variable {W:Addr}{H H1 H2:Hp}{ka kb:List Addr}{R R1 R2:Hp->Hp->Prop}
theorem Got.open {α:Type}{R:Hp->Hp->Addr->α->Prop}{r:Addr}{zs:List α}(h:Got W H ka H1 λF G=>RL R F G r zs):∃as:List Addr,H1 r=some (.lst (as.map V.ref))/\r∈ka/\Got W H ka H1 λF G=>Ls (R F G) as zs:=by
 obtain⟨G,a,b,c,as,e,k⟩:=h.q
 obtain⟨hr,e⟩:=jo e
 exact⟨as,e,hr,h.keep,h.new,G,a,b,c,k⟩
theorem Got.add {S:Hp->Prop}(h:Got W H ka H1 R1)(hW:H W≠none)(hW1:H1 W≠none)(s:Same H1 H2)(m1:Mo2 R1)(m:Mo S)(k:S (dif H1 H2)):Got W H ka H2 λF G=>R1 F G/\S G:=by
 have:=h.join (kI (R:=λ_ G=>S G) s k) hW hW1 m1 (λ_ _ _ _ _ s z=>m _ _ s z) (R:=λF G=>R1 F G/\S G) λF G a b=>⟨a,b⟩
 rwa [l31] at this
end
theorem gZ {c:Cp}{H:Hp}:∀{as:List Addr} {ps:List PC},Ls (PCAt c H) as ps->PCs c H as ps
 | [],[],_=>trivial
 | [],_::_,h=>h.elim
 |_::_,[],h=>h.elim
 |_::_,_::_,h=>⟨h.1,gZ h.2⟩
def RP (c:Cp)(_ G:Hp)(a:Addr)(p:PC):Prop:=PCAt c G a p
theorem dm {c:Cp}:Mo3 (RP c):=λ_ _ _ _ _ _ _ s h=>mo_PC _ _ s h
section
variable {c:Cp}
abbrev sKept:Stmt:=top 83
theorem scKept:FnScope p14 p14 (ad sKept):=mkS
def iI:Sp:=λvs H Q _=>∃(r W:Addr) (ks:List V),vs=[.ref r, .ref W]/\H W=some (.lst ks)/\ks.length<=1000000/\Q (.ref r) (upd H W (.lst (ks++[.ref r])))
theorem ok_kept (F:Fun K "_law_kept" "_law_kept" sKept f fd):FnOk P w K mg base CX0 1 f fd p14 iI:=by
 have sc:=scKept
 refine F.oks sc λcdv A outer s H vs Q E hr h=>?_
 obtain⟨r,W,ks,rfl,e,hl,q⟩:=h
 refine ao (xbc (b8 (xm PySem.F.plainAttrs_list PySem.F.slot_list_append PySem.F.type_list_append aP (xv 1) (xac (xv 0) xa0)))
  (xb1 (xret (xv 0)))) ?_
 rw[show aS p14 [V.ref r,V.ref W]=[some (V.ref r),some (V.ref W)] from rfl]
 exact⟨_,rfl, .inl ⟨rfl,_,SqL.of e⟩,_,rfl,W,ks, .ref r,rfl,rfl,e,by rw[sizeLine_eq];omega,_,rfl,q⟩
def na (c:Cp)(Rp:PC->Prop)(n:Nat):Sp:=λvs H Q _=>∃(v:V) (p:PC) (W:Addr) (ks:List V),vs=[v, .ref W]/\Dn (offX H W) v (dP p)/\Rp p/\H W=some (.lst ks)/\ks.length<=500000/\∀a ka H',H' W=some (.lst (ks++ka.map V.ref))->ka.length<=n->Got W H ka H' (λF G=>RP c F G a p)->Q (.ref a) H'
def g8 (c:Cp)(Rp:PC->Prop)(n:Nat):Sp:=λvs H Q _=>∃(v:V) (ps:List PC) (W:Addr) (ks:List V),vs=[v, .ref W]/\Dn (offX H W) v (.list (ps.map dP))/\(∀p∈ps,Rp p)/\ps.length<=100000/\H W=some (.lst ks)/\ks.length+n * ps.length<=500000/\∀r ka H',H' W=some (.lst (ks++ka.map V.ref))->ka.length<=n * ps.length+1->Got W H ka H' (λF G=>RL (RP c) F G r ps)->Q (.ref r) H'
abbrev sPtOf:Stmt:=top 84
theorem scPtOf:FnScope p6 p6 (ad sPtOf):=mkS
theorem qK {k n:Nat}{Rp:PC->Prop}{spI:Sp}(F:Fun K "_law_part_of" "_law_part_of" sPtOf f fd)(hk:1<=k)(D_Link:New P w K mg base 1 "Link" c.Link p26 (fE c.Link "words" "name"))(D_Plain:New P w K mg base 1 "Plain" c.Plain p10 (cN c.Plain "signs"))(D_Code:New P w K mg base 1 "Code" c.Code p10 (cN c.Code "signs"))
  (D_Mark:New P w K mg base 1 "Mark" c.Mark p27 (cN c.Mark "name"))(D_Strong:New P w K mg base 1 "Strong" c.Strong p11 (lm c.Strong))(D_l_parts_of:Def P w K mg base k "_law_parts_of" p6 spI)(hI:∀ps,Rp (.strong ps)->1<=n/\ps.length<=100000/\∀vs H Q E,g8 c R1 0 vs H Q E->spI vs H Q E):FnOk P w K mg base CX0 (k+3) f fd p6 (na c Rp n):=by
 have sc:=scPtOf
 refine F.oks sc λcdv A outer s H vs Q E hr h=>?_
 obtain⟨v,p,W,ks,rfl,dv,hRp,eW,hkl,q⟩:=h
 refine ao (xbc (xif (aw aD (xix al (xv 0) xint (λ_ _=>rfl)) xstr (ai _)) (xb1 (xret (xnew D_Plain (hr.mono (by omega)) (xac (xix al (xv 0) xint (λ_ _=>rfl)) xa0)))) xb0)
  (xbc (xif (aw aD (xix al (xv 0) xint (λ_ _=>rfl)) xstr (ai _)) (xb1 (xret (xnew D_Code (hr.mono (by omega)) (xac (xix al (xv 0) xint (λ_ _=>rfl)) xa0)))) xb0)
  (xbc (xif (aw aD (xix al (xv 0) xint (λ_ _=>rfl)) xstr (ai _)) (xb1 (xret (xnew D_Strong (hr.mono (by omega)) (xac (xcd D_l_parts_of hr (xac (xix al (xv 0) xint (λ_ _=>rfl)) (xac (xv 1) xa0))) xa0)))) xb0)
  (xbc (xif (aw aD (xix al (xv 0) xint (λ_ _=>rfl)) xstr (ai _)) (xb1 (xret (xnew D_Link (hr.mono (by omega)) (xac (xix al (xv 0) xint (λ_ _=>rfl)) (xac (xix al (xv 0) xint (λ_ _=>rfl)) xa0))))) xb0)
  (xb1 (xret (xnew D_Mark (hr.mono (by omega)) (xac (xix al (xv 0) xint (λ_ _=>rfl)) xa0)))))))) ?_
 have hs:sizeLine=16777216:=sizeLine_eq
 rw[show aS p6 [v,V.ref W]=[some v,some (V.ref W)] from rfl]
 obtain⟨tb,ys,rfl,et⟩:=gT dv
 have et:=iH _ _ et
 have hWn:H W≠none:=by rw[eW];exact λz=>nomatch z
 have evx:∀(j:Nat) (y:V),(V.str (kdP p)::ys)[j]? = some y->∀H',Same H H'->Ev (tOp (rIxT K) (tVar 0) (tC (.int j))) [some (.ref tb),some (.ref W)] H' y:=λj y hj H' s'=>cj (ev_v rfl) ev_c (SqT.of (s' _ _ et)) (aC hj)
 have done:∀(H2:Hp) (y:Addr),Same H H2->PCAt c (dif H H2) y p->Q (.ref y) H2:=λH2 y s2 h2=>q _ [] _ (by rw[l65,l31];exact s2 _ _ eW) (l14 _) (kI s2 h2)
 match p,dv,hRp,evx,et,done,q with
 | .one (.plain st),dv,hRp,evx,et,done,q=>
  obtain⟨_,e',e⟩:=gS dv
  cases e'
  cases (iH _ _ e).symm.trans et
  refine bK (Same.refl H) (evx 0 _ rfl) rfl λH1 s1=>?_
  refine evx 1 _ rfl H1 s1 _ λy dx hy hd' _=>?_
  obtain⟨m1,m2⟩:=made1 (C:=c.Plain) (o := .ins c.Plain dx [("signs", .str st)]) s1 hy hd'
  exact⟨y,dx,_,rfl,aa,rfl,done _ _ m1 ⟨ji (p := .plain st) dv,dx,m2⟩⟩
 | .one (.code st),dv,hRp,evx,et,done,q=>
  obtain⟨_,e',e⟩:=gS dv
  cases e'
  cases (iH _ _ e).symm.trans et
  refine aq (k:=i0) (Same.refl H) (evx 0 _ rfl) (by decide +kernel) λH1 s1=>bK s1 (evx 0 _ rfl) rfl λH1 s1=>?_
  refine evx 1 _ rfl H1 s1 _ λy dx hy hd' _=>?_
  obtain⟨m1,m2⟩:=made1 (C:=c.Code) (o := .ins c.Code dx [("signs", .str st)]) s1 hy hd'
  exact⟨y,dx,_,rfl,aa,rfl,done _ _ m1 ⟨ji (p := .code st) dv,dx,m2⟩⟩
 | .one (.note st),dv,hRp,evx,et,done,q=>
  obtain⟨_,e',e⟩:=gS dv
  cases e'
  cases (iH _ _ e).symm.trans et
  refine aq (k:=fQ) (Same.refl H) (evx 0 _ rfl) (by decide +kernel) λH1 s1=>aq (k:=fQ) s1 (evx 0 _ rfl) (by decide +kernel) λH1 s1=>aq (k:=fQ) s1 (evx 0 _ rfl) (by decide +kernel) λH1 s1=>aq (k:=fQ) s1 (evx 0 _ rfl) (by decide +kernel) λH1 s1=>?_
  refine evx 1 _ rfl H1 s1 _ λy dx hy hd' _=>?_
  obtain⟨m1,m2⟩:=made1 (C:=c.Mark) (o := .ins c.Mark dx [("name", .str st)]) s1 hy hd'
  exact⟨y,dx,_,rfl,aa,rfl,done _ _ m1 ⟨ji (p := .note st) dv,dx,m2⟩⟩
 | .one (.link st nm),dv,hRp,evx,et,done,q=>
  obtain⟨_,e',e⟩:=told3 dv
  cases e'
  cases (iH _ _ e).symm.trans et
  obtain⟨g1,g2⟩:=ji (p := .link st nm) dv
  refine aq (k:=gD) (Same.refl H) (evx 0 _ rfl) (by decide +kernel) λH1 s1=>aq (k:=gD) s1 (evx 0 _ rfl) (by decide +kernel) λH1 s1=>aq (k:=gD) s1 (evx 0 _ rfl) (by decide +kernel) λH1 s1=>bK s1 (evx 0 _ rfl) rfl λH1 s1=>?_
  refine evx 1 _ rfl H1 s1 _ (evx 2 _ rfl H1 s1 _ λy dx hy hd' _=>?_)
  obtain⟨m1,m2⟩:=made2 (C:=c.Link) (o1 := .ins c.Link dx [("words", .str st)]) (o := .ins c.Link dx [("words", .str st),("name", .str nm)]) s1 hy hd'
  exact⟨y,dx,_,_,rfl,aa,rfl,done _ _ m1 ⟨g1,g2,dx,m2⟩⟩
 | .strong qs,dv,hRp,evx,et,done,q=>
  obtain⟨_,vm,e',e,b⟩:=oy dv
  cases e'
  cases (iH _ _ e).symm.trans et
  obtain⟨hn1,hql,hI⟩:=hI qs hRp
  have em:(qs.map PC.one).map dP=qs.map d1:=by rw[l28];rfl
  have hq1:∀p∈qs.map PC.one,R1 p:=λp hp=>by
   obtain⟨x,_,rfl⟩:=l32.mp hp
   unfold R1
   simp[one?]
  refine aq (k:=cA) (Same.refl H) (evx 0 _ rfl) (by decide +kernel) λH1 s1=>aq (k:=cA) s1 (evx 0 _ rfl) (by decide +kernel) λH1 s1=>bK s1 (evx 0 _ rfl) rfl λH1 s1=>?_
  refine evx 1 _ rfl H1 s1 _ ⟨_,rfl,hI _ _ _ _ ⟨_,qs.map .one,W,ks,rfl,?_,hq1,by rw[l6];exact hql,s1 _ _ eW,by omega,λr2 ka H5 eW5 hka got=>?_⟩⟩
  ·rw[em];exact b.same (bv (ag s1))
  obtain⟨bs,er2,hr2,got⟩:=got.open
  have hW1:H1 W≠none:=by rw[s1 _ _ eW];exact λz=>nomatch z
  have hW5:H5 W≠none:=by rw[eW5];exact λz=>nomatch z
  refine λy dx hy hd' hyd=>?_
  have hry:r2≠y:=λz=>by rw[z,hy] at er2;cases er2
  have hrd:r2≠dx:=λz=>by rw[z,hd'] at er2;cases er2
  refine⟨y,dx,r2,_,rfl,aa,by rw[af hry,af hrd];exact er2,λp2 hp2=>⟨rfl,?_⟩⟩
  have hpy:p2≠y:=λz=>by rw[z,aa] at hp2;cases hp2
  have s6:Same H5 (upd (upd H5 dx (.own y)) y (.ins c.Strong dx [])):=au hy (ac hd' _)
  have hp5:H5 p2=none:=s6.free hp2
  generalize hH7:upd (upd (upd (upd H5 dx (.own y)) y (.ins c.Strong dx [])) p2 (.lst (bs.map V.ref))) y (.ins c.Strong dx [("parts", .ref p2)])=H7
  have s7:Same H5 H7:=by rw[<- hH7];exact au hy (s6.trans (ac hp2 _))
  have e7y:H7 y=some (.ins c.Strong dx [("parts", .ref p2)]):=by rw[<- hH7];exact aa
  have e7p:H7 p2=some (.lst (bs.map V.ref)):=by rw[<- hH7,af hpy];exact aa
  have g7:=got.add (S:=λG=>G y=some (.ins c.Strong dx [("parts", .ref p2)])/\G p2=some (.lst (bs.map V.ref))) hW1 hW5 s7 (eg dm _ _) (λG G' s h=>⟨s _ _ h.1,s _ _ h.2⟩) ⟨by rw[ar hy];exact e7y,by rw[ar hp5];exact e7p⟩
  have g0:=(kI (W:=W) (R:=λ_ _=>True) s1 trivial).join g7 hWn hW1 (λ_ _ _ _ _ _ z=>z) (λF F' G G' sF sG h=>⟨eg dm _ _ _ _ _ _ sF sG h.1,sG _ _ h.2.1,sG _ _ h.2.2⟩) (R:=λF G=>RP c F G y (.strong qs)) λF G _ h=>by
   have h3:=(gZ h.1).ones λp hp=>by
    obtain⟨x,_,rfl⟩:=l32.mp hp
    exact λz=>nomatch z
   rw[mI] at h3
   exact⟨dx,p2,bs,h.2.1,h.2.2,h3⟩
  exact q y _ H7 (s7 _ _ eW5) (l10 hka (by rw[Nat.zero_mul];exact hn1)) g0
end
theorem ft {α:Type}{R:Hp->Hp->Addr->α->Prop}{W D:Addr}{H0 H':Hp}{ka as:List Addr}{zs:List α}{o:HO}(mR:Mo3 R)(hWn:H0 W≠none)(hD:H0 D=none)(hDk:D∉ka)(eD:H' D=some (.lst (as.map V.ref)))(kp:KeepX W H0 H')(hnew:∀a∈ka,H0 a=none/\IsK H' a)(hlz:zs.length<=100000)(hn:NewQ H0 (D::ka) H' (λG=>Ls (R (onL ka H') G) as zs)):Got W H0 (ka++[D]) (upd H' W o) λF G=>RL R F G D zs:=by
 have hDW:D≠W:=λz=>hWn (z▸hD)
 have hne:∀b∈ka,b≠W:=λb hb z=>hWn (z▸(hnew b hb).1)
 refine⟨λb o' nb e=>(af nb).trans (kp b o' nb e),λb hb=>?_,?_⟩
 ·rcases l18.mp hb with z |z
  ·unfold IsK;rw[af (hne b z)];exact hnew b z
  ·unfold IsK;rw[l20.mp z,af hDW];exact⟨hD,_,eD,by obtain⟨G,_,_,_,k⟩:=hn;rw[l6,k.len];exact hlz⟩
 ·obtain⟨G,a,b,c,k⟩:=hn
  refine⟨G,λx o' e=>(af λz=>?_).trans (a x o' e),λx hx=>b x ?_,c,as,?_,k.mono λx z=>mR x z _ _ _ _ ?_ (Same.refl _)⟩
  ·rw[z,c W hWn] at e;cases e
  ·rcases l18.mp hx with z |z
   ·exact l15 _ z
   ·rw[l20.mp z];exact l13
  ·rw[on_at (l30 _ l13),af hDW];exact eD
  ·exact cV (λx hx=>l44 _ hx) λx hx o' e=>(af (hne x hx)).trans e
theorem cW {W a:Addr}{H:Hp}{o:HO}(h:offX H W a=some o):a≠W/\H a=some o:=by
 unfold offX at h
 split at h
 ·cases h
 ·rename_i z;exact⟨z,h⟩
section
variable {c:Cp}
abbrev sPsOf:Stmt:=top 85
theorem scPsOf:FnScope p6 p6 (ad sPsOf):=mkS
theorem qL {k n:Nat}{Rp:PC->Prop}(F:Fun K "_law_parts_of" "_law_parts_of" sPsOf f fd)(hk:1<=k)(D_l_kept:Def P w K mg base 1 "_law_kept" p14 iI)(D_l_part_of:Def P w K mg base k "_law_part_of" p6 (na c Rp n)):FnOk P w K mg base CX0 (k+3) f fd p6 (g8 c Rp n):=by
 have sc:=scPsOf
 refine F.oks sc λcdv A outer s H vs Q E hr h=>?_
 obtain⟨v,ps,W,ks,rfl,dv,hRp,hpl,eW,hkl,q⟩:=h
 refine ao (xb1 (xret (xcd D_l_kept hr (xac (xlc (cl:=[("_law_lists",s.heap.objs.size+1)]) (own:=["_law_one"]) (fr:=[1]) (N':=p24) rfl (bw (xs:=["_law_lists"]) ⟨rfl,trivial⟩ ⟨rfl,rfl, .inl rfl, .inl rfl,trivial⟩ (by decide +kernel)) (by decide +kernel) (by decide +kernel) (by with_unfolding_all rfl)
  (xil (xv 0))
  (λ_ _ _ _=>xgn (i:=0) (show (p24:List Str).Nodup by decide +kernel) rfl (Or.inl rfl)) (λ_ _ _ _=>xq0) (λ_ _ _ _=>(xcd D_l_part_of hr (xac (xv 0) (xac (xv 1) xa0))))) (xac (xv 1) xa0))))) ?_
 have hs:sizeLine=16777216:=sizeLine_eq
 obtain⟨l,xs,rfl,el,da⟩:=bg dv
 obtain⟨hlW,el⟩:=cW el
 have hlen:xs.length=ps.length:=by rw[da.len,l6]
 have hWn:H W≠none:=by rw[eW];exact λz=>nomatch z
 rw[show aS p6 [V.ref l,V.ref W]=[some (V.ref l),some (V.ref W)] from rfl]
 refine⟨_,rfl,l,rfl,⟨_,SqL.of el⟩,?_⟩
 refine gY (RP c) dm ps n eW el hlW hlen hpl ?_ ?_
 ·intro i x p hx hp H1 ks1 k1 eW1 hk1 C N hC
  obtain⟨p',hp',_,dp⟩:=mY da hx
  rw[hp] at hp'
  cases hp'
  have hni:n * i<=n * ps.length:=l72 _ (by have:=(List.getElem?_eq_some_iff.mp hp).1;omega)
  exact⟨(nfLe.refl _ _ _).set (by decide) _,iteT (B:=N H1) ⟨_,rfl,_,rfl,_,p,W,ks1,rfl,dp.same (bv k1),hRp p (l17 hp),eW1,by omega,λa ka H4 eW4 hka got=>hC a ka H4 eW4 hka got⟩⟩
 ·intro D ka H1 as hD eW1 hka hDk eD kp hnew hn
  refine⟨_,rfl,D,W,_,rfl,eW1,by rw[l5,l6];omega,?_⟩
  refine q D (ka++[D]) _ (by rw[aa,l16,l24];rfl) (by rw[l5];show _+1<=_;omega) (ft dm hWn hD hDk eD kp hnew (by omega) hn)
abbrev sCsOf:Stmt:=top 87
theorem scCsOf:FnScope p6 p6 (ad sCsOf):=mkS
def qM (c:Cp):Sp:=λvs H Q _=>∃(v:V) (cs:List (List PC)) (W:Addr) (ks:List V),vs=[v, .ref W]/\Dn (offX H W) v (bF cs)/\(∀ps∈cs,ps.length<=4/\∀p∈ps,R2 p)/\cs.length<=1000/\H W=some (.lst ks)/\ks.length<=300000/\∀r ka H',H' W=some (.lst (ks++ka.map V.ref))->ka.length<=5 * cs.length+1->Got W H ka H' (λF G=>RL (RL (RP c)) F G r cs)->Q (.ref r) H'
theorem ok_csof {k:Nat}(F:Fun K "_law_cells_of" "_law_cells_of" sCsOf f fd)(hk:1<=k)(D_l_kept:Def P w K mg base 1 "_law_kept" p14 iI)(D_l_parts_of:Def P w K mg base k "_law_parts_of" p6 (g8 c R2 1)):FnOk P w K mg base CX0 (k+3) f fd p6 (qM c):=by
 have sc:=scCsOf
 refine F.oks sc λcdv A outer s H vs Q E hr h=>?_
 obtain⟨v,cs,W,ks,rfl,dv,hRp,hpl,eW,hkl,q⟩:=h
 refine ao (xb1 (xret (xcd D_l_kept hr (xac (xlc (cl:=[("_law_lists",s.heap.objs.size+1)]) (own:=["_law_one"]) (fr:=[1]) (N':=p24) rfl (bw (xs:=["_law_lists"]) ⟨rfl,trivial⟩ ⟨rfl,rfl, .inl rfl, .inl rfl,trivial⟩ (by decide +kernel)) (by decide +kernel) (by decide +kernel) (by with_unfolding_all rfl)
  (xil (xv 0))
  (λ_ _ _ _=>xgn (i:=0) (show (p24:List Str).Nodup by decide +kernel) rfl (Or.inl rfl)) (λ_ _ _ _=>xq0) (λ_ _ _ _=>(xcd D_l_parts_of hr (xac (xv 0) (xac (xv 1) xa0))))) (xac (xv 1) xa0))))) ?_
 have hs:sizeLine=16777216:=sizeLine_eq
 obtain⟨l,xs,rfl,el,da⟩:=bg dv
 obtain⟨hlW,el⟩:=cW el
 have hlen:xs.length=cs.length:=by rw[da.len,l6]
 have hWn:H W≠none:=by rw[eW];exact λz=>nomatch z
 rw[show aS p6 [V.ref l,V.ref W]=[some (V.ref l),some (V.ref W)] from rfl]
 refine⟨_,rfl,l,rfl,⟨_,SqL.of el⟩,?_⟩
 refine gY (RL (RP c)) (fq dm) cs 5 eW el hlW hlen (by omega) ?_ ?_
 ·intro i x ps hx hp H1 ks1 k1 eW1 hk1 C N hC
  obtain⟨d,hdi,dx⟩:=da.getV hx
  rw[List.getElem?_map,hp] at hdi
  cases hdi
  obtain⟨h4,hR⟩:=hRp ps (l17 hp)
  have hil:=(List.getElem?_eq_some_iff.mp hp).1
  exact⟨(nfLe.refl _ _ _).set (by decide) _,iteT (B:=N H1) ⟨_,rfl,_,rfl,_,ps,W,ks1,rfl,dx.same (bv k1),hR,by omega,eW1,by omega,λr ka H4 eW4 hka got=>hC r ka H4 eW4 (by omega) got⟩⟩
 ·intro D ka H1 as hD eW1 hka hDk eD kp hnew hn
  refine⟨_,rfl,D,W,_,rfl,eW1,by rw[l5,l6];omega,?_⟩
  refine q D (ka++[D]) _ (by rw[aa,l16,l24];rfl) (by rw[l5];show _+1<=_;omega) (ft (fq dm) hWn hD hDk eD kp hnew (by omega) hn)
end
structure KI {α:Type}(R:Hp->Hp->Addr->α->Prop)(W D:Addr)(ks:List V)(H0 H:Hp)(as ka:List Addr)(zs:List α):Prop where
 keep:KeepX W H0 H
 eD:H D=some (.lst (as.map V.ref))
 eW:H W=some (.lst (ks++ka.map V.ref))
 out:D∉ka
 new:∀a∈ka,H0 a=none/\IsK H a
 q:NewQ H0 (D::ka) H (λG=>Ls (R (onL ka H) G) as zs)
theorem KI.step {α:Type}{R:Hp->Hp->Addr->α->Prop}{W D a:Addr}{ks:List V}{H0 H H4:Hp}{as ka kb:List Addr}{zs:List α}{z:α}(h:KI R W D ks H0 H as ka zs)(mR:Mo3 R)(hW:H0 W=some (.lst ks))(hD:H0 D=none)(hW4:H4 W=some (.lst (ks++ka.map V.ref++kb.map V.ref)))(got:Got W H kb H4 λF G=>R F G a z):KI R W D ks H0 (upd H4 D (.lst (as.map V.ref++[.ref a]))) (as++[a]) (ka++kb) (zs++[z]):=by
 obtain⟨kp,hDa,hWa,hDk,hnew,hn⟩:=h
 have hWn:H0 W≠none:=by rw[hW];exact λz=>nomatch z
 have hDW:D≠W:=λe=>by rw[e] at hD;exact hWn hD
 have hHW:H W≠none:=by rw[hWa];exact λz=>nomatch z
 have hDkb:D∉kb:=λz=>by have:=(got.new D z).1;rw[hDa] at this;cases this
 have hkaW:∀b∈ka,b≠W:=λb hb z=>hWn (z▸(hnew b hb).1)
 have hkab:∀b∈ka,∀o,H b=some o->H4 b=some o:=λb hb o e=>got.keep b o (hkaW b hb) e
 have hDab:D∉ka++kb:=λz=>(l18.mp z).elim hDk hDkb
 refine⟨?_,by rw[aa,l16];rfl,?_,hDab,λb hb=>?_,?_⟩
 ·intro b o nb hb
  rw[af (λz=>by rw[z,hD] at hb;cases hb)]
  exact(kp.trans got.keep) b o nb hb
 ·rw[af (Ne.symm hDW),hW4,l16,l24]
 ·have hbD:b≠D:=λz=>hDab (z▸hb)
  unfold IsK
  rw[af hbD]
  rcases l18.mp hb with z |z
  ·obtain⟨e,ys,e1,e2⟩:=hnew b z
   exact⟨e,ys,hkab b z _ e1,e2⟩
  ·obtain⟨e,ys,e1,e2⟩:=got.new b z
   exact⟨aB kp (got.ne hHW z) e,ys,e1,e2⟩
 ·refine NewQ.upd ?_ l13
  have hF:Same (onL (ka++kb) H4) (onL (ka++kb) (upd H4 D (.lst (as.map V.ref++[.ref a])))):=cV (λ_ h=>h) λb hb o e=>(af (λz:b=D=>hDab (z▸hb))).trans e
  have q1:NewQ H0 (D::(ka++kb)) H4 λG=>Ls (R (onL (ka++kb) H4) G) as zs:=by
   obtain⟨G1,a1,b1,c1,r1⟩:=hn
   refine⟨G1,λb o e=>got.keep b o (λz=>?_) (a1 b o e),λb hb=>?_,c1,eg mR _ _ _ _ _ _ (cV (λb hb=>l44 _ hb) hkab) (Same.refl _) r1⟩
   ·rw[z,c1 W hWn] at e;cases e
   ·rcases l9.mp hb with z |z
    ·exact b1 b (z▸l13)
    ·rcases l18.mp z with z |z
     ·exact b1 b (l15 _ z)
     ·cases e:G1 b with
      |none=>rfl
      |some o=>have:=a1 b o e;rw[(got.new b z).1] at this;cases this
  have q2:NewQ H0 (D::(ka++kb)) H4 λG=>R (onL (ka++kb) H4) G a z:=by
   obtain⟨G2,a2,b2,c2,r2⟩:=got.q
   refine⟨G2,a2,λb hb=>?_,λb hb=>c2 b (fo kp hHW hb),mR a _ _ _ _ _ (cV (λb hb=>l30 _ hb) λ_ _ _ e=>e) (Same.refl _) r2⟩
   rcases l9.mp hb with z |z
   ·exact c2 b (by rw[z,hDa];exact λz=>nomatch z)
   ·rcases l18.mp z with z |z
    ·obtain⟨_,ys,e1,_⟩:=hnew b z
     exact c2 b (by rw[e1];exact λz=>nomatch z)
    ·exact b2 b z
  refine NewQ.join q1 q2 (λG G' s z=>eg mR _ _ _ _ _ _ (Same.refl _) s z) (λG G' s z=>mR _ _ _ _ _ _ (Same.refl _) s z) λG z1 z2=>?_
  exact(z1.snoc z2).mono λb x=>mR b x _ _ _ _ hF (Same.refl _)
def RE (c:Cb)(n:Nat)(_ G:Hp)(a:Addr)(e:En n):Prop:=EAt c n G a e
theorem oB {c:Cb}{n:Nat}:Mo3 (RE c n):=λ_ _ _ _ _ _ _ s h=>gM n _ _ _ _ s h
def kE:Nat->Nat
 |0=>1
 |n+1=>2 * (5+kE n)+1
theorem SPs.r2 {ps : List PC} (h : CPs ps) : ∀ p ∈ ps, R2 p := r2_of (fun p hp => (h.2 p hp).1) (by
 have h1:∀l:List PC,(∀p∈l,szC p<=400)->(l.map szC).sum<=400 * l.length:=λl hl=>by
  induction l with
  |nil=>exact l7 _
  |cons p l ih=>
   have a:=hl p l13
   have b:=ih λx hx=>hl x (l15 _ hx)
   rw[l19,l35,l8]
   omega
 have h2:=h1 ps λp hp=>(h.2 p hp).2
 have:=h.1
 omega)
section
variable {c:Cb}
abbrev sEsOf:Stmt:=top 86
theorem scEsOf:FnScope ["_law_told","_law_lists","_law_found","_law_sign","_law_parts_here","_law_within"] p6 (ad sEsOf):=mkS
def nc (c:Cb)(n:Nat):Sp:=λvs H Q _=>∃(v:V) (es:List (En n)) (W:Addr) (ks:List V),vs=[v, .ref W]/\Dn (offX H W) v (.list (es.map (dE n)))/\(∀e∈es,GE n e)/\es.length<=2/\H W=some (.lst ks)/\ks.length+kE n<=300000/\∀r ka H',H' W=some (.lst (ks++ka.map V.ref))->ka.length<=kE n->Got W H ka H' (λF G=>RL (RE c n) F G r es)->Q (.ref r) H'
def stepO (c:Cb)(spI:Sp):Nat->Prop
 |0=>True
 |m+1=>∀vs H Q E,nc c m vs H Q E->spI vs H Q E
theorem qN {k:Nat}(n:Nat){spI:Sp}(F:Fun K "_law_entries_of" "_law_entries_of" sEsOf f fd)(hk:1<=k)(D_l_kept:Def P w K mg base 1 "_law_kept" p14 iI)(D_l_parts_of:Def P w K mg base k "_law_parts_of" p6 (g8 c.cp R2 1))(D_Entry:New P w K mg base 1 "Entry" c.Entry p33 (lG c.Entry))(D_l_entries_of:Def P w K mg base k "_law_entries_of" p6 spI)(hI:stepO c spI n):FnOk P w K mg base CX0 (k+3) f fd p6 (nc c n):=by
 have sc:=scEsOf
 refine F.oks sc λcdv A outer s H vs Q E hr h=>?_
 obtain⟨v,es,W,ks,rfl,dv,hG,hel,eW,hkl,q⟩:=h
 refine ao (xbc (xset (i:=2) sc.nd rfl (Or.inl rfl) (xlst xa0))
  (xbc (xfor PassesOwn.never rfl (xil (xv 0)) (xgt rfl (xgsc (xgn (i:=3) sc.nd rfl (Or.inl rfl)) (xgsc (xgn (i:=4) sc.nd rfl (Or.inl rfl)) (xgsc (xgn (i:=5) sc.nd rfl (Or.inl rfl)) xgs0))))
  (xb1 (b8 (xm PySem.F.plainAttrs_list PySem.F.slot_list_append PySem.F.type_list_append aP (xv 2) (xac (xnew D_Entry (hr.mono (by omega)) (xac (xv 3) (xac (xcd D_l_parts_of hr (xac (xv 4) (xac (xv 1) xa0))) (xac (xcd D_l_entries_of hr (xac (xv 5) (xac (xv 1) xa0))) xa0)))) xa0)))))
  (xb1 (xret (xcd D_l_kept hr (xac (xv 2) (xac (xv 1) xa0))))))) ?_
 have hs:sizeLine=16777216:=sizeLine_eq
 obtain⟨l,xs,rfl,el,da⟩:=bg dv
 obtain⟨hlW,el⟩:=cW el
 have hlen:xs.length=es.length:=by rw[da.len,l6]
 have hWn:H W≠none:=by rw[eW];exact λz=>nomatch z
 rw[show aS ["_law_told","_law_lists","_law_found","_law_sign","_law_parts_here","_law_within"] [V.ref l,V.ref W]=[some (V.ref l),some (V.ref W),none,none,none,none] from rfl]
 refine bJ λU0 eU=>?_
 refine⟨big (show (0:Nat)<=1000000 by decide),λD hD=>?_⟩
 have hDW:D≠W:=λz=>hWn (z▸hD)
 have s1:=ac hD (.lst [])
 have e1:upd H D (.lst []) D=some (.lst []):=aa
 dsimp only[av,sA,sB]
 refine eU _ _ _ ?_
 generalize upd H D (.lst [])=H1 at s1 e1 ⊢
 refine⟨_,rfl,l,rfl,⟨_,SqL.of (s1 _ _ el)⟩,?_⟩
 have hkE1:∀m,n=m+1->kE n=2 * (5+kE m)+1:=λm e=>by rw[e];rfl
 refine bN (xs:=xs) (λi σ H'=>∃as ka x3 x4 x5,σ=[some (.ref l),some (.ref W),some (.ref D),x3,x4,x5]/\(∀m,n=m+1->ka.length<=(5+kE m) * i)/\(i=0->ka=[])/\as.length=i/\KI (RE c n) W D ks H H' as ka (es.take i)) ⟨[],[],none,none,none,rfl,(λ_ _=>l14 _),(λ_=>rfl),rfl,ag s1,e1,by rw[l65,l31];exact s1 _ _ eW,(λz=>nomatch z),(λ_ z=>nomatch z),NewQ.triv trivial⟩ ?_ ?_ ?_
 ·rintro i σ H3 _ ⟨_,_,_,_,_,_,_,_,_,ki⟩
  exact SqL.of (ki.keep _ _ hlW el)
 ·rintro i x σ H3 hx ⟨as,ka,x3,x4,x5,rfl,hkm,_,hal,ki⟩
  obtain⟨dd,hdi,hdx⟩:=da.getV hx
  rw[List.getElem?_map] at hdi
  obtain⟨en,hei,rfl⟩:=l52.mp hdi
  have hm:=l17 hei
  have hil:=(List.getElem?_eq_some_iff.mp hei).1
  cases n with
  |zero=>exact nomatch en
  |succ m=>
   have hdx:=hdx.same (bv ki.keep)
   obtain⟨b0,ys,rfl,eb,dy⟩:=kH hdx
   obtain⟨y0,ys,rfl,d0,dy⟩:=ak dy
   obtain⟨y1,ys,rfl,d1,dy⟩:=ak dy
   obtain⟨y2,ys,rfl,d2,dy⟩:=ak dy
   cases fI dy
   cases aZ d0
   obtain⟨hps,hwl,hw⟩:=hG en hm
   have hkm:=hkm m rfl
   have hkE:=hkE1 m rfl
   have hmi:(5+kE m) * i<=5+kE m:=by
    have:i=0 ∨ i=1:=by omega
    rcases this with z |z <;> rw[z] <;> simp
   refine⟨b0,_,rfl,SqT.of (cW eb).2,rfl,_,_,rfl,_,_,rfl,_,_,rfl,rfl,?_⟩
   dsimp only[av,sA,sB]
   refine⟨_,rfl, .inl ⟨rfl,_,SqL.of ki.eD⟩,_,rfl,_,rfl,_,rfl,?_⟩
   refine⟨_,EnF.parts en,W,_,rfl,d1,SPs.r2 hps.c,by have:=hps.2.1;omega,ki.eW,by rw[l5,l6];have:=hps.2.1;omega,λr1 k1 H4 eW4 hk1 g1=>?_⟩
   have hH3W:H3 W≠none:=by rw[ki.eW];exact λz=>nomatch z
   have hH4W:H4 W≠none:=by rw[eW4];exact λz=>nomatch z
   refine⟨_,rfl,_,rfl,hI _ _ _ _ ⟨_,EnF.within en,W,_,rfl,d2.same (bv g1.keep),hw,hwl,eW4,?_,λr2 k2 H5 eW5 hk2 g2=>?_⟩⟩
   ·have:=hps.2.1
    rw[l5,l5,l6,l6]
    omega
   obtain⟨as1,er1,hr1,got1⟩:=g1.open
   obtain⟨bs,er2,hr2,got2⟩:=g2.open
   have hH5W:H5 W≠none:=by rw[eW5];exact λz=>nomatch z
   have er15:=got2.keep _ _ (got1.ne hH3W hr1) er1
   have g12:=got1.join got2 hH3W hH4W (eg dm _ _) (eg oB _ _) (R:=λF G=>Ls (RP c.cp F G) as1 (EnF.parts en)/\Ls (RE c m F G) bs (EnF.within en)) λF G a b=>⟨a,b⟩
   refine λy dx hy hd' hyd=>?_
   have s6:Same H5 (upd (upd H5 dx (.own y)) y (.ins c.Entry dx [])):=au hy (ac hd' _)
   refine⟨y,dx,_,r1,_,r2,_,rfl,aa,s6 _ _ er15,s6 _ _ er2,λp r H6 hp hr kx e6p e6r e6y=>⟨rfl,?_⟩⟩
   have s56:Same H5 H6:=λb o e=>kx b o (λz=>by rw[z,hy] at e;cases e) (s6 _ _ e)
   have hp5:=s6.free hp
   have hr5:=s6.free hr
   have g6:=g12.add (S:=λG=>G y=some (.ins c.Entry dx [("sign",vS (bI (EnF.sign en))),("parts", .ref p),("entries", .ref r)])/\G p=some (.lst (as1.map V.ref))/\G r=some (.lst (bs.map V.ref))) hH3W hH5W s56 (λF F' G G' sF sG h=>⟨eg dm _ _ _ _ _ _ sF sG h.1,eg oB _ _ _ _ _ _ sF sG h.2⟩) (λG G' s h=>⟨s _ _ h.1,s _ _ h.2.1,s _ _ h.2.2⟩) ⟨by rw[ar hy];exact e6y,by rw[ar hp5];exact e6p,by rw[ar hr5];exact e6r⟩
   have g7:Got W H3 (k1++k2) H6 λF G=>RE c (m+1) F G y en:=g6.map λF G h=>⟨dx,p,r,h.2.1,⟨as1,h.2.2.1,gZ h.1.1⟩,⟨bs,h.2.2.2,h.1.2⟩⟩
   have eD6:=s56 _ _ (got2.keep _ _ hDW (got1.keep _ _ hDW ki.eD))
   have eW6:=s56 _ _ eW5
   refine⟨D,_, .ref y,rfl,rfl,eD6,by rw[l6,hs];omega,?_⟩
   have hst:=ki.step oB eW hD (by rw[l16,<- l24];exact eW6) g7
   refine⟨as++[y],ka++(k1++k2),_,_,_,rfl,λm' e=>?_,(λz=>absurd z (Nat.succ_ne_zero i)),by rw[l5,hal];rfl,?_⟩
   ·cases e
    have:=hps.2.1
    rw[l5,l5,Nat.mul_succ]
    omega
   ·rw[l42,hei]
    exact hst
 ·rintro σ H3 ⟨as,ka,x3,x4,x5,rfl,hkm,hk0,hal,ki⟩
  rw[hlen,l40] at ki
  have hkk:ka.length+1<=kE n:=by
   cases n with
   |zero=>
    have:es=[]:=by cases es with |nil=>rfl |cons e _=>exact nomatch e
    rw[hk0 (by rw[hlen,this];rfl)]
    exact l7 _
   |succ m=>
    have h1:=hkm m rfl
    have h2:=hkE1 m rfl
    have h3:(5+kE m) * xs.length<=(5+kE m) * 2:=l72 _ (by omega)
    omega
  refine⟨_,rfl,_,rfl,D,W,_,rfl,ki.eW,by rw[l5,l6];omega,?_⟩
  exact q D (ka++[D]) _ (by rw[aa,l16,l24];rfl) (by rw[l5];exact hkk) (ft oB hWn hD ki.out ki.eD ki.keep ki.new (by omega) ki.q)
end
theorem ini {C:Addr}{H5 H6:Hp}{y dx:Addr}(hy:H5 y=none)(hd':H5 dx=none)(kx:KeepX y (upd (upd H5 dx (.own y)) y (.ins C dx [])) H6):Same H5 H6:=λb o e=>kx b o (λz=>by rw[z,hy] at e;cases e) (au hy (ac hd' _) b o e)
theorem ini0 {C:Addr}{H5:Hp}{y dx:Addr}(hy:H5 y=none)(hd':H5 dx=none):Same H5 (upd (upd H5 dx (.own y)) y (.ins C dx [])):=au hy (ac hd' _)
def RB {β:Type}(R:Hp->Addr->β->Prop)(_ G:Hp)(a:Addr)(b:β):Prop:=R G a b
theorem qO {β:Type}{R:Hp->Addr->β->Prop}(m:MoR R):Mo3 (RB R):=λ_ _ _ _ _ _ _ s h=>m _ _ _ _ s h
def Zs {α γ:Type}(P:α->γ->Prop):List α->List γ->Prop
 | [],[]=>True
 |a::as,b::bs=>P a b/\Zs P as bs
 |_,_=>False
theorem Zs.len {α γ:Type}{P:α->γ->Prop}:∀{as:List α} {bs:List γ},Zs P as bs->as.length=bs.length
 | [],[],_=>rfl
 | [],_::_,h=>h.elim
 |_::_,[],h=>h.elim
 |_::_,_::_,h=>congrArg (· + 1) h.2.len
theorem Zs.mono {α γ:Type}{P P':α->γ->Prop}(k:∀a b,P a b->P' a b):∀{as:List α} {bs:List γ},Zs P as bs->Zs P' as bs
 | [],[],_=>trivial
 | [],_::_,h=>h.elim
 |_::_,[],h=>h.elim
 |_::_,_::_,h=>⟨k _ _ h.1,h.2.mono k⟩
theorem jp {α γ:Type}{Q:Addr->α->Prop}{P:α->γ->Prop}:∀{as:List Addr} {zs:List γ},Ls (λa z=>∃x,Q a x/\P x z) as zs->∃xs,Ls Q as xs/\Zs P xs zs
 | [],[],_=>⟨[],trivial,trivial⟩
 | [],_::_,h=>h.elim
 |_::_,[],h=>h.elim
 |_::_,_::_,h=>let ⟨x,h1,h2⟩:=h.1;let ⟨xs,h3,h4⟩:=jp h.2;⟨x::xs,⟨h1,h3⟩,h2,h4⟩
theorem jq {α γ:Type}{Q:Addr->α->Prop}{P:α->γ->Prop}{R:Addr->γ->Prop}(k:∀a x z,Q a x->P x z->R a z):∀{as:List Addr} {xs:List α} {zs:List γ},Ls Q as xs->Zs P xs zs->Ls R as zs
 | [],[],[],_,_=>trivial
 | [],[],_::_,_,h=>h.elim
 | [],_::_,_,h,_=>h.elim
 |_::_,[],_,h,_=>h.elim
 |_::_,_::_,[],_,h=>h.elim
 |_::_,_::_,_::_,h1,h2=>⟨k _ _ _ h1.1 h2.1,jq k h1.2 h2.2⟩
def PX (c:Cp)(G:Hp)(xs:List V)(ps:List PC):Prop:=∃as:List Addr,xs=as.map V.ref/\PCs c G as ps
theorem PX.same {c:Cp}{G G':Hp}{xs:List V}{ps:List PC}(s:Same G G')(h:PX c G xs ps):PX c G' xs ps:=let ⟨as,e,k⟩:=h;⟨as,e,k.same s⟩
theorem split1 {c:Cp}{F G:Hp}{r:Addr}{cs:List (List PC)}(h:RL (RL (RP c)) F G r cs):∃hss,LV F r hss/\Zs (PX c G) hss cs:=by
 obtain⟨as,e,k⟩:=h
 obtain⟨xs,h1,h2⟩:=jp (Q:=λa x=>F a=some (.lst x)) (P:=PX c G) (k.mono λa ps ⟨bs,e,k⟩=>⟨bs.map V.ref,e,bs,rfl,gZ k⟩)
 exact⟨xs,⟨as,e,h1⟩,h2⟩
theorem split2 {c:Cp}{F G:Hp}{r:Addr}{ls:List (List (List PC))}(h:RL (RL (RL (RP c))) F G r ls):∃lss,LAt LV F r lss/\Zs (Zs (PX c G)) lss ls:=by
 obtain⟨as,e,k⟩:=h
 obtain⟨xs,h1,h2⟩:=jp (Q:=λa x=>LV F a x) (P:=Zs (PX c G)) (k.mono λa cs h=>split1 h)
 exact⟨xs,⟨as,e,h1⟩,h2⟩
theorem merge1 {c:Cp}{G:Hp}{r:Addr}{hss:List (List V)}{cs:List (List PC)}(h:LV G r hss)(k:Zs (PX c G) hss cs):LAt (PL c) G r cs:=
 let ⟨as,e,h1⟩:=h;⟨as,e,jq (λa x z h1 ⟨bs,e2,h2⟩=>⟨bs,by rw[h1,e2],h2⟩) h1 k⟩
theorem merge2 {c:Cp}{G:Hp}{r:Addr}{lss:List (List (List V))}{ls:List (List (List PC))}(h:LAt LV G r lss)(k:Zs (Zs (PX c G)) lss ls):LAt (LAt (PL c)) G r ls:=
 let ⟨as,e,h1⟩:=h;⟨as,e,jq (Q:=LV G) (P:=Zs (PX c G)) (R:=LAt (PL c) G) (λa x z h1 h2=>merge1 h1 h2) h1 k⟩
theorem Got.open1 {W:Addr}{H H1:Hp}{ka:List Addr}{c:Cp}{r:Addr}{cs:List (List PC)}(h:Got W H ka H1 λF G=>RL (RL (RP c)) F G r cs):∃hss,LV (onL ka H1) r hss/\Got W H ka H1 λ_ G=>Zs (PX c G) hss cs:=by
 obtain⟨G,a,b,d,k⟩:=h.q
 obtain⟨hss,h1,h2⟩:=split1 k
 exact⟨hss,h1,h.keep,h.new,G,a,b,d,h2⟩
theorem Got.open2 {W:Addr}{H H1:Hp}{ka:List Addr}{c:Cp}{r:Addr}{ls:List (List (List PC))}(h:Got W H ka H1 λF G=>RL (RL (RL (RP c))) F G r ls):∃lss,LAt LV (onL ka H1) r lss/\Got W H ka H1 λ_ G=>Zs (Zs (PX c G)) lss ls:=by
 obtain⟨G,a,b,d,k⟩:=h.q
 obtain⟨lss,h1,h2⟩:=split2 k
 exact⟨lss,h1,h.keep,h.new,G,a,b,d,h2⟩
theorem kJ {G:Hp}:∀{sd:List Bool} {xs:List V},DnAll G xs (sd.map λb => .str (S (bU b)))->xs=sd.map λb=>vS (bU b)
 | [],_,h=>fI h
 |_::_,_,h=>by
  obtain⟨v,us,rfl,d,r⟩:=ak h
  cases aZ d
  rw[kJ r]
  rfl
theorem CCs.pre {cs:List (List PC)}(h:CCs cs):∀ps∈cs,ps.length<=4/\∀p∈ps,R2 p:=λps hp=>⟨(h.2 ps hp).1,SPs.r2 (h.2 ps hp)⟩
section
variable {c:Cb}{BT:Addr}{β:Type}
abbrev sBkOf:Stmt:=top 88
theorem scBkOf:FnScope ["_law_told","_law_lists","_law_lines"] p6 (ad sBkOf):=mkS
def ng (g:β->PyData)(R:Hp->Addr->β->Prop)(ok:β->Prop)(kc:Nat):Sp:=λvs H Q _=>∃(v:V) (b:β) (W:Addr) (ks:List V),vs=[v, .ref W]/\Dn (offX H W) v (g b)/\ok b/\H W=some (.lst ks)/\ks.length+kc<=200000/\∀a ka H',H' W=some (.lst (ks++ka.map V.ref))->ka.length<=kc->Got W H ka H' (λF G=>RB R F G a b)->Q (.ref a) H'
theorem qP {k kc:Nat}{spI:Sp}{g:β->PyData}{R:Hp->Addr->β->Prop}{ok:β->Prop}(mR:MoR R)(F:Fun K "_law_block_of" "_law_block_of" sBkOf f fd)(T:TxB K mg c BT)(hk:2<=k)(D_l_kept:Def P w K mg base 1 "_law_kept" p14 iI)(D_l_parts_of:Def P w K mg base k "_law_parts_of" p6 (g8 c.cp R2 1))(D_l_cells_of:Def P w K mg base k "_law_cells_of" p6 (qM c.cp))(D_l_entries_of:Def P w K mg base k "_law_entries_of" p6 (nc c 6))
  (D_Naming:New P w K mg base 1 "Naming" c.Naming p30 (fE c.Naming "name" "target"))(D_Para:New P w K mg base 1 "Para" c.Para p11 (bV c.Para "parts"))(D_Noting:New P w K mg base 1 "Noting" c.Noting p29 (dH c.Noting "name" "parts"))(D_Heading:New P w K mg base 1 "Heading" c.Heading p28 (dH c.Heading "level" "parts"))(D_Listing:New P w K mg base 1 "Listing" c.Listing p32 (bV c.Listing "entries"))(D_Literal:New P w K mg base 1 "Literal" c.Literal p17 (bV c.Literal "lines"))(D_Quote:New P w K mg base 1 "Quote" c.Quote p31 (bV c.Quote "blocks"))(D_Table:New P w K mg base 2 "Table" c.Table p34 (lL c.Table))
  (D_l_block_of:Def P w K mg base k "_law_block_of" p6 spI)(hI:∀b:β,∀vs H Q E,ng g R ok kc vs H Q E->spI vs H Q E):FnOk P w K mg base CX0 (k+3) f fd p6 (ng (dBF g) (BAtF c R) (GBF ok) (2 * kc+1000)):=by
 have sc:=scBkOf
 refine F.oks sc λcdv A outer s H vs Q E hr h=>?_
 obtain⟨v,b,W,ks,rfl,dv,hok,eW,hkl,q⟩:=h
 refine ao (xbc (xif (aw aD (xix al (xv 0) xint (λ_ _=>rfl)) xstr (ai _)) (xb1 (xret (xnew D_Naming (hr.mono (by omega)) (xac (xix al (xv 0) xint (λ_ _=>rfl)) (xac (xix al (xv 0) xint (λ_ _=>rfl)) xa0))))) xb0)
  (xbc (xif (aw aD (xix al (xv 0) xint (λ_ _=>rfl)) xstr (ai _)) (xb1 (xret (xnew D_Para (hr.mono (by omega)) (xac (xcd D_l_parts_of hr (xac (xix al (xv 0) xint (λ_ _=>rfl)) (xac (xv 1) xa0))) xa0)))) xb0)
  (xbc (xif (aw aD (xix al (xv 0) xint (λ_ _=>rfl)) xstr (ai _)) (xb1 (xret (xnew D_Noting (hr.mono (by omega)) (xac (xix al (xv 0) xint (λ_ _=>rfl)) (xac (xcd D_l_parts_of hr (xac (xix al (xv 0) xint (λ_ _=>rfl)) (xac (xv 1) xa0))) xa0))))) xb0)
  (xbc (xif (aw aD (xix al (xv 0) xint (λ_ _=>rfl)) xstr (ai _)) (xb1 (xret (xnew D_Heading (hr.mono (by omega)) (xac (xix al (xv 0) xint (λ_ _=>rfl)) (xac (xcd D_l_parts_of hr (xac (xix al (xv 0) xint (λ_ _=>rfl)) (xac (xv 1) xa0))) xa0))))) xb0)
  (xbc (xif (aw aD (xix al (xv 0) xint (λ_ _=>rfl)) xstr (ai _)) (xb1 (xret (xnew D_Listing (hr.mono (by omega)) (xac (xcd D_l_entries_of hr (xac (xix al (xv 0) xint (λ_ _=>rfl)) (xac (xv 1) xa0))) xa0)))) xb0)
  (xbc (xif (aw aD (xix al (xv 0) xint (λ_ _=>rfl)) xstr (ai _)) (xb1 (xret (xnew D_Literal (hr.mono (by omega)) (xac (xcd D_l_kept hr (xac (xcTy aA T.n_list rfl (xac (xix al (xv 0) xint (λ_ _=>rfl)) xa0)) (xac (xv 1) xa0))) xa0)))) xb0)
  (xbc (xif (aw aD (xix al (xv 0) xint (λ_ _=>rfl)) xstr (ai _)) (xb1 (xret (xnew D_Quote (hr.mono (by omega)) (xac (xcd D_l_kept hr (xac (xlc (cl:=[("_law_lists",s.heap.objs.size+1)]) (own:=["_law_one"]) (fr:=[1]) (N':=p24) rfl (bw (xs:=["_law_lists"]) ⟨rfl,trivial⟩ ⟨rfl,rfl, .inl rfl, .inl rfl,trivial⟩ (by decide +kernel)) (by decide +kernel) (by decide +kernel) (by with_unfolding_all rfl)
  (xil (xix al (xv 0) xint (λ_ _=>rfl)))
  (λ_ _ _ _=>xgn (i:=0) (show (p24:List Str).Nodup by decide +kernel) rfl (Or.inl rfl)) (λ_ _ _ _=>xq0) (λ_ _ _ _=>(xcd D_l_block_of hr (xac (xv 0) (xac (xv 1) xa0))))) (xac (xv 1) xa0))) xa0)))) xb0)
  (xbc (xset (i:=2) sc.nd rfl (Or.inl rfl) (xcd D_l_kept hr (xac (xlc (cl:=[("_law_lists",s.heap.objs.size+1)]) (own:=["_law_line_here"]) (fr:=[1]) (N':=["_law_line_here","_law_lists"]) rfl (bw (xs:=["_law_lists"]) ⟨rfl,trivial⟩ ⟨rfl,rfl, .inl rfl, .inl rfl,trivial⟩ (by decide +kernel)) (by decide +kernel) (by decide +kernel) (by with_unfolding_all rfl)
  (xil (xix al (xv 0) xint (λ_ _=>rfl)))
  (λ_ _ _ _=>xgn (i:=0) (show (["_law_line_here","_law_lists"]:List Str).Nodup by decide +kernel) rfl (Or.inl rfl)) (λ_ _ _ _=>xq0) (λ_ _ _ _=>(xcd D_l_cells_of hr (xac (xv 0) (xac (xv 1) xa0))))) (xac (xv 1) xa0))))
  (xb1 (xret (xnew D_Table (hr.mono (by omega)) (xac (xcd D_l_cells_of hr (xac (xix al (xv 0) xint (λ_ _=>rfl)) (xac (xv 1) xa0))) (xac (xcd D_l_kept hr (xac (xcTy aA T.n_list rfl (xac (xix al (xv 0) xint (λ_ _=>rfl)) xa0)) (xac (xv 1) xa0))) (xac (xv 2) xa0)))))))))))))) ?_
 have hs:sizeLine=16777216:=sizeLine_eq
 have hWn:H W≠none:=by rw[eW];exact λz=>nomatch z
 rw[show aS ["_law_told","_law_lists","_law_lines"] [v,V.ref W]=[some v,some (V.ref W),none] from rfl]
 obtain⟨b0,ys,rfl,eb,ds,hds,dy⟩:∃b0 ys,v = .ref b0/\offX H W b0=some (.tup ys)/\∃ds,dBF g b = .tuple ds/\DnAll (offX H W) ys ds:=by
  cases b <;> exact let ⟨b0,ys,e,eb,dy⟩:=kH dv;⟨b0,ys,e,eb,_,rfl,dy⟩
 obtain⟨hbW,eb⟩:=cW eb
 have evk:∀{j:Nat} {y:V} {x2:Option V},ys[j]? = some y->∀H',KeepX W H H'->Ev (tOp (rIxT K) (tVar 0) (tC (.int j))) [some (.ref b0),some (.ref W),x2] H' y:=λhj H' s'=>cj (ev_v rfl) ev_c (SqT.of (s' _ _ hbW eb)) (aC hj)
 have evx:∀{j:Nat} {y:V},ys[j]? = some y->∀H',Same H H'->Ev (tOp (rIxT K) (tVar 0) (tC (.int j))) [some (.ref b0),some (.ref W),none] H' y:=λhj H' s'=>evk hj H' (ag s')
 have base_:∀{H1 H2:Hp} {ka:List Addr} {R1:Hp->Hp->Prop},Same H H1->Got W H1 ka H2 R1->Mo2 R1->Got W H ka H2 R1:=λ{H1 H2 ka R1} s1 g1 m1=>(kI (W:=W) (R:=λ_ _=>True) s1 trivial).join g1 hWn (by rw[s1 _ _ eW];exact λz=>nomatch z) (λ_ _ _ _ _ _ z=>z) m1 λF G _ h=>h
 refine gen7 λB0 B1 B2 B3 B4 B5 B6 U0 e0 e1 e2 e3 e4 e5 e6 eU=>?_
 cases b with
 |name n t=>
  cases hds
  obtain⟨y0,ys,rfl,d0,dy⟩:=ak dy
  obtain⟨y1,ys,rfl,d1,dy⟩:=ak dy
  obtain⟨y2,ys,rfl,d2,dy⟩:=ak dy
  cases aZ d0
  cases aZ d1
  cases aZ d2
  refine bK (Same.refl H) (evx (j:=0) rfl) rfl λH1 s1=>?_
  refine e0 _ _ _ ?_
  refine evx (j:=1) rfl H1 s1 _ (evx (j:=2) rfl H1 s1 _ λy dx hy hd' _=>?_)
  obtain⟨m1,m2⟩:=made2 (C:=c.Naming) (o1 := .ins c.Naming dx [("name",vS n)]) (o := .ins c.Naming dx [("name",vS n),("target",vS t)]) s1 hy hd'
  exact⟨y,dx,_,_,rfl,aa,rfl,q y [] _ (by rw[l65,l31];exact m1 _ _ eW) (l14 _) (kI m1 ⟨dx,m2⟩)⟩
 |para ps=>
  cases hds
  obtain⟨y0,ys,rfl,d0,dy⟩:=ak dy
  obtain⟨y1,ys,rfl,d1,dy⟩:=ak dy
  cases aZ d0
  have hps:SPs ps:=hok
  refine aq (Same.refl H) (evx (j:=0) rfl) (by decide +kernel) λH1 s1=>bK s1 (evx (j:=0) rfl) rfl λH1 s1=>?_
  refine e1 _ _ _ ?_
  refine evx (j:=1) rfl H1 s1 _ ⟨_,rfl,_,ps,W,ks,rfl,d1.same (bv (ag s1)),SPs.r2 hps.c,by have:=hps.2.1;omega,s1 _ _ eW,by have:=hps.2.1;omega,λr ka H5 eW5 hka got=>?_⟩
  obtain⟨as,er,_,got⟩:=(base_ s1 got (fq dm _ _)).open
  refine λy dx hy hd' hyd=>⟨y,dx,r,_,rfl,aa,ini0 hy hd' _ _ er,λp H6 hp kx e6p e6y=>⟨rfl,?_⟩⟩
  have s56:=ini hy hd' kx
  have g6:=got.add (S:=λG=>G y=some (.ins c.Para dx [("parts", .ref p)])/\G p=some (.lst (as.map V.ref))) hWn (by rw[eW5];exact λz=>nomatch z) s56 (eg dm _ _) (λG G' s h=>⟨s _ _ h.1,s _ _ h.2⟩) ⟨by rw[ar hy];exact e6y,by rw[ar ((ini0 hy hd').free hp)];exact e6p⟩
  exact q y ka H6 (s56 _ _ eW5) (by have:=hps.2.1;omega) (g6.map λF G h=>⟨dx,p,h.2.1,as,h.2.2,gZ h.1⟩)
 |note n ps=>
  cases hds
  obtain⟨y0,ys,rfl,d0,dy⟩:=ak dy
  obtain⟨y1,ys,rfl,d1,dy⟩:=ak dy
  obtain⟨y2,ys,rfl,d2,dy⟩:=ak dy
  cases aZ d0
  cases aZ d1
  have hps:SPs ps:=hok.2
  refine aq (Same.refl H) (evx (j:=0) rfl) (by decide +kernel) λH1 s1=>aq s1 (evx (j:=0) rfl) (by decide +kernel) λH1 s1=>bK s1 (evx (j:=0) rfl) rfl λH1 s1=>?_
  refine e2 _ _ _ ?_
  refine evx (j:=1) rfl H1 s1 _ (evx (j:=2) rfl H1 s1 _ ⟨_,rfl,_,ps,W,ks,rfl,d2.same (bv (ag s1)),SPs.r2 hps.c,by have:=hps.2.1;omega,s1 _ _ eW,by have:=hps.2.1;omega,λr ka H5 eW5 hka got=>?_⟩)
  obtain⟨as,er,_,got⟩:=(base_ s1 got (fq dm _ _)).open
  refine λy dx hy hd' hyd=>⟨y,dx,_,r,_,rfl,aa,ini0 hy hd' _ _ er,λp H6 hp kx e6p e6y=>⟨rfl,?_⟩⟩
  have s56:=ini hy hd' kx
  have g6:=got.add (S:=λG=>G y=some (.ins c.Noting dx [("name",vS n),("parts", .ref p)])/\G p=some (.lst (as.map V.ref))) hWn (by rw[eW5];exact λz=>nomatch z) s56 (eg dm _ _) (λG G' s h=>⟨s _ _ h.1,s _ _ h.2⟩) ⟨by rw[ar hy];exact e6y,by rw[ar ((ini0 hy hd').free hp)];exact e6p⟩
  exact q y ka H6 (s56 _ _ eW5) (by have:=hps.2.1;omega) (g6.map λF G h=>⟨dx,p,h.2.1,as,h.2.2,gZ h.1⟩)
 |heading n ps=>
  cases hds
  obtain⟨y0,ys,rfl,d0,dy⟩:=ak dy
  obtain⟨y1,ys,rfl,d1,dy⟩:=ak dy
  obtain⟨y2,ys,rfl,d2,dy⟩:=ak dy
  cases aZ d0
  cases d1
  have hps:SPs ps:=hok.2
  refine aq (Same.refl H) (evx (j:=0) rfl) (by decide +kernel) λH1 s1=>aq s1 (evx (j:=0) rfl) (by decide +kernel) λH1 s1=>aq s1 (evx (j:=0) rfl) (by decide +kernel) λH1 s1=>bK s1 (evx (j:=0) rfl) rfl λH1 s1=>?_
  refine e3 _ _ _ ?_
  refine evx (j:=1) rfl H1 s1 _ (evx (j:=2) rfl H1 s1 _ ⟨_,rfl,_,ps,W,ks,rfl,d2.same (bv (ag s1)),SPs.r2 hps.c,by have:=hps.2.1;omega,s1 _ _ eW,by have:=hps.2.1;omega,λr ka H5 eW5 hka got=>?_⟩)
  obtain⟨as,er,_,got⟩:=(base_ s1 got (fq dm _ _)).open
  refine λy dx hy hd' hyd=>⟨y,dx,_,r,_,rfl,aa,ini0 hy hd' _ _ er,λp H6 hp kx e6p e6y=>⟨rfl,?_⟩⟩
  have s56:=ini hy hd' kx
  have g6:=got.add (S:=λG=>G y=some (.ins c.Heading dx [("level", .int n),("parts", .ref p)])/\G p=some (.lst (as.map V.ref))) hWn (by rw[eW5];exact λz=>nomatch z) s56 (eg dm _ _) (λG G' s h=>⟨s _ _ h.1,s _ _ h.2⟩) ⟨by rw[ar hy];exact e6y,by rw[ar ((ini0 hy hd').free hp)];exact e6p⟩
  exact q y ka H6 (s56 _ _ eW5) (by have:=hps.2.1;omega) (g6.map λF G h=>⟨dx,p,h.2.1,as,h.2.2,gZ h.1⟩)
 |lst es=>
  cases hds
  obtain⟨y0,ys,rfl,d0,dy⟩:=ak dy
  obtain⟨y1,ys,rfl,d1,dy⟩:=ak dy
  cases aZ d0
  have hk6:kE 6=757:=by decide
  refine aq (Same.refl H) (evx (j:=0) rfl) (by decide +kernel) λH1 s1=>aq s1 (evx (j:=0) rfl) (by decide +kernel) λH1 s1=>aq s1 (evx (j:=0) rfl) (by decide +kernel) λH1 s1=>aq s1 (evx (j:=0) rfl) (by decide +kernel) λH1 s1=>bK s1 (evx (j:=0) rfl) rfl λH1 s1=>?_
  refine e4 _ _ _ ?_
  refine evx (j:=1) rfl H1 s1 _ ⟨_,rfl,_,es,W,ks,rfl,d1.same (bv (ag s1)),hok.2,hok.1,s1 _ _ eW,by omega,λr ka H5 eW5 hka got=>?_⟩
  obtain⟨as,er,_,got⟩:=(base_ s1 got (fq oB _ _)).open
  refine λy dx hy hd' hyd=>⟨y,dx,r,_,rfl,aa,ini0 hy hd' _ _ er,λp H6 hp kx e6p e6y=>⟨rfl,?_⟩⟩
  have s56:=ini hy hd' kx
  have g6:=got.add (S:=λG=>G y=some (.ins c.Listing dx [("entries", .ref p)])/\G p=some (.lst (as.map V.ref))) hWn (by rw[eW5];exact λz=>nomatch z) s56 (eg oB _ _) (λG G' s h=>⟨s _ _ h.1,s _ _ h.2⟩) ⟨by rw[ar hy];exact e6y,by rw[ar ((ini0 hy hd').free hp)];exact e6p⟩
  exact q y ka H6 (s56 _ _ eW5) (by omega) (g6.map λF G h=>⟨dx,p,h.2.1,as,h.2.2,h.1⟩)
 |lit ls=>
  cases hds
  obtain⟨y0,ys,rfl,d0,dy⟩:=ak dy
  obtain⟨y1,ys,rfl,d1,dy⟩:=ak dy
  cases aZ d0
  refine aq (Same.refl H) (evx (j:=0) rfl) (by decide +kernel) λH1 s1=>aq s1 (evx (j:=0) rfl) (by decide +kernel) λH1 s1=>aq s1 (evx (j:=0) rfl) (by decide +kernel) λH1 s1=>aq s1 (evx (j:=0) rfl) (by decide +kernel) λH1 s1=>aq s1 (evx (j:=0) rfl) (by decide +kernel) λH1 s1=>bK s1 (evx (j:=0) rfl) rfl λH1 s1=>?_
  refine e5 _ _ _ ?_
  obtain⟨l,xs,rfl,el,dx0⟩:=bg d1
  obtain⟨hlW,el⟩:=cW el
  cases jm dx0
  refine evx (j:=1) rfl H1 s1 _ ⟨l,_,rfl, .inl (SqL.of (s1 _ _ el)),λD hD=>⟨_,rfl,D,W,ks,rfl,ac hD _ _ _ (s1 _ _ eW),by omega,?_⟩⟩
  have hDW:D≠W:=λz=>by rw[z,s1 _ _ eW] at hD;cases hD
  have s2:Same H (upd H1 D (.lst (ls.map vS))):=s1.trans (ac hD _)
  have e2:upd H1 D (.lst (ls.map vS)) D=some (.lst (ls.map vS)):=aa
  have got:Got W H [D] (upd (upd H1 D (.lst (ls.map vS))) W (.lst (ks++[.ref D]))) λ_ _=>True:=by
   refine⟨λb o nb e=>(af nb).trans (s2 b o e),λb hb=>?_,NewQ.triv trivial⟩
   unfold IsK
   rw[l20.mp hb,af hDW]
   exact⟨s1.free hD,_,e2,by rw[l6];have:=hok.1;omega⟩
  have eD5:upd (upd H1 D (.lst (ls.map vS))) W (.lst (ks++[.ref D])) D=some (.lst (ls.map vS)):=(af hDW).trans e2
  have eW5:upd (upd H1 D (.lst (ls.map vS))) W (.lst (ks++[.ref D])) W=some (.lst (ks++[D].map V.ref)):=aa
  generalize upd (upd H1 D (.lst (ls.map vS))) W (.lst (ks++[.ref D]))=H5 at got eD5 eW5 ⊢
  refine λy dx hy hd' hyd=>⟨y,dx,D,_,rfl,aa,ini0 hy hd' _ _ eD5,λp H6 hp kx e6p e6y=>⟨rfl,?_⟩⟩
  have s56:=ini hy hd' kx
  have g6:=got.add (S:=λG=>G y=some (.ins c.Literal dx [("lines", .ref p)])/\G p=some (.lst (ls.map vS))) hWn (by rw[eW5];exact λz=>nomatch z) s56 (λ_ _ _ _ _ _ z=>z) (λG G' s h=>⟨s _ _ h.1,s _ _ h.2⟩) ⟨by rw[ar hy];exact e6y,by rw[ar ((ini0 hy hd').free hp)];exact e6p⟩
  exact q y [D] H6 (s56 _ _ eW5) (by show 1<=_;omega) (g6.map λF G h=>⟨dx,p,h.2.1,h.2.2⟩)
 |quote bs=>
  cases hds
  obtain⟨y0,ys,rfl,d0,dy⟩:=ak dy
  obtain⟨y1,ys,rfl,d1,dy⟩:=ak dy
  cases aZ d0
  have hbl:bs.length<=2:=hok.1
  have hbo:∀b∈bs,ok b:=hok.2
  refine aq (Same.refl H) (evx (j:=0) rfl) (by decide +kernel) λH1 s1=>aq s1 (evx (j:=0) rfl) (by decide +kernel) λH1 s1=>aq s1 (evx (j:=0) rfl) (by decide +kernel) λH1 s1=>aq s1 (evx (j:=0) rfl) (by decide +kernel) λH1 s1=>aq s1 (evx (j:=0) rfl) (by decide +kernel) λH1 s1=>aq s1 (evx (j:=0) rfl) (by decide +kernel) λH1 s1=>bK s1 (evx (j:=0) rfl) rfl λH1 s1=>?_
  refine e6 _ _ _ ?_
  obtain⟨l,xs,rfl,el,da⟩:=bg d1
  obtain⟨hlW,el⟩:=cW el
  have hlen:xs.length=bs.length:=by rw[da.len,l6]
  refine evx (j:=1) rfl H1 s1 _ ⟨l,rfl,⟨_,SqL.of (s1 _ _ el)⟩,?_⟩
  refine gY (RB R) (qO mR) bs kc (s1 _ _ eW) (s1 _ _ el) hlW hlen (by omega) ?_ ?_
  ·intro i x b hx hb H2 ks2 k2 eW2 hk2 C N hC
   obtain⟨d,hdi,dx0⟩:=da.getV hx
   rw[List.getElem?_map,hb] at hdi
   cases hdi
   have hil:=(List.getElem?_eq_some_iff.mp hb).1
   have hki:kc * i<=kc:=by
    have:i=0 ∨ i=1:=by omega
    rcases this with z |z <;> rw[z] <;> simp
   exact⟨(nfLe.refl _ _ _).set (by decide) _,iteT (B:=N H2) ⟨_,rfl,_,rfl,hI b _ _ _ _ ⟨_,b,W,ks2,rfl,dx0.same (bv ((ag s1).trans k2)),hbo b (l17 hb),eW2,by omega,λa ka H4 eW4 hka got=>hC a ka H4 eW4 hka got⟩⟩⟩
  ·intro D ka H2 as hD eW2 hka hDk eD kp hnew hn
   have hki:kc * bs.length<=kc * 2:=l72 _ hbl
   refine⟨_,rfl,D,W,_,rfl,eW2,by rw[l5,l6];omega,?_⟩
   have hW1:H1 W≠none:=by rw[s1 _ _ eW];exact λz=>nomatch z
   have got:=ft (o := .lst (ks++ka.map V.ref++[.ref D])) (qO mR) hW1 hD hDk eD kp hnew (by omega) hn
   have eW5:upd H2 W (.lst (ks++ka.map V.ref++[.ref D])) W=some (.lst (ks++(ka++[D]).map V.ref)):=by rw[aa,l16,l24];rfl
   generalize upd H2 W (.lst (ks++ka.map V.ref++[.ref D]))=H5 at got eW5 ⊢
   obtain⟨as,er,_,got⟩:=(base_ s1 got (fq (qO mR) _ _)).open
   refine λy dx hy hd' hyd=>⟨y,dx,D,_,rfl,aa,ini0 hy hd' _ _ er,λp H6 hp kx e6p e6y=>⟨rfl,?_⟩⟩
   have s56:=ini hy hd' kx
   have g6:=got.add (S:=λG=>G y=some (.ins c.Quote dx [("blocks", .ref p)])/\G p=some (.lst (as.map V.ref))) hWn (by rw[eW5];exact λz=>nomatch z) s56 (eg (qO mR) _ _) (λG G' s h=>⟨s _ _ h.1,s _ _ h.2⟩) ⟨by rw[ar hy];exact e6y,by rw[ar ((ini0 hy hd').free hp)];exact e6p⟩
   exact q y _ H6 (s56 _ _ eW5) (by rw[l5];show _+1<=_;omega) (g6.map λF G h=>⟨dx,p,h.2.1,as,h.2.2,h.1⟩)
 |table hd sd ls=>
  cases hds
  obtain⟨y0,ys,rfl,d0,dy⟩:=ak dy
  obtain⟨y1,ys,rfl,d1,dy⟩:=ak dy
  obtain⟨y2,ys,rfl,d2,dy⟩:=ak dy
  obtain⟨y3,ys,rfl,d3,dy⟩:=ak dy
  cases aZ d0
  obtain⟨o1,o2,o3,o4⟩:TbOk hd sd ls:=hok
  refine aq (Same.refl H) (evx (j:=0) rfl) (by decide +kernel) λH1 s1=>aq s1 (evx (j:=0) rfl) (by decide +kernel) λH1 s1=>aq s1 (evx (j:=0) rfl) (by decide +kernel) λH1 s1=>aq s1 (evx (j:=0) rfl) (by decide +kernel) λH1 s1=>aq s1 (evx (j:=0) rfl) (by decide +kernel) λH1 s1=>aq s1 (evx (j:=0) rfl) (by decide +kernel) λH1 s1=>aq s1 (evx (j:=0) rfl) (by decide +kernel) λH1 s1=>?_
  refine eU _ _ _ ?_
  obtain⟨l,xs,rfl,el,da⟩:=bg d3
  obtain⟨hlW,el⟩:=cW el
  have hlen:xs.length=ls.length:=by rw[da.len,l6]
  have hW1:H1 W≠none:=by rw[s1 _ _ eW];exact λz=>nomatch z
  refine evx (j:=3) rfl H1 s1 _ ⟨l,rfl,⟨_,SqL.of (s1 _ _ el)⟩,?_⟩
  refine gY (RL (RL (RP c.cp))) (fq (fq dm)) ls 16 (s1 _ _ eW) (s1 _ _ el) hlW hlen (by omega) ?_ ?_
  ·intro i x cs hx hb H2 ks2 k2 eW2 hk2 C N hC
   obtain⟨d,hdi,dx0⟩:=da.getV hx
   rw[List.getElem?_map,hb] at hdi
   cases hdi
   have hil:=(List.getElem?_eq_some_iff.mp hb).1
   have oc:=o4 cs (l17 hb)
   exact⟨(nfLe.refl _ _ _).set (by decide) _,iteT (B:=N H2) ⟨_,rfl,_,rfl,_,cs,W,ks2,rfl,dx0.same (bv ((ag s1).trans k2)),oc.pre,by have:=oc.1;omega,eW2,by omega,λr ka H4 eW4 hka got=>hC r ka H4 eW4 (by have:=oc.1;omega) got⟩⟩
  ·intro D ka H2 as hD eW2 hka hDk eD kp hnew hn
   refine⟨_,rfl,D,W,_,rfl,eW2,by rw[l5,l6];omega,?_⟩
   have got:=ft (o := .lst (ks++ka.map V.ref++[.ref D])) (fq (fq dm)) hW1 hD hDk eD kp hnew (by omega) hn
   have eW3:upd H2 W (.lst (ks++ka.map V.ref++[.ref D])) W=some (.lst (ks++(ka++[D]).map V.ref)):=by rw[aa,l16,l24];rfl
   have hka3:(ka++[D]).length<=49:=by rw[l5];show _+1<=_;omega
   dsimp only[av,sA,sB]
   generalize upd H2 W (.lst (ks++ka.map V.ref++[.ref D]))=H3 at got eW3 ⊢
   generalize ka++[D]=k3 at got eW3 hka3
   have got3:=base_ s1 got (fq (fq (fq dm)) _ _)
   obtain⟨lss,el3,got3⟩:=got3.open2
   have hW3:H3 W≠none:=by rw[eW3];exact λz=>nomatch z
   refine evk (j:=1) rfl H3 got3.keep _ ⟨_,rfl,_,hd,W,_,rfl,d1.same (bv got3.keep),o1.pre,by have:=o1.1;omega,eW3,by rw[l5,l6];omega,λr1 k1 H4 eW4 hk1 got1=>?_⟩
   obtain⟨hss,eh4,got1⟩:=got1.open1
   have hW4:H4 W≠none:=by rw[eW4];exact λz=>nomatch z
   have mX1:Mo2 λ_ G=>Zs (PX c.cp G) hss hd:=λF F' G G' _ sG h=>h.mono λ_ _ z=>z.same sG
   have mX2:Mo2 λ_ G=>Zs (Zs (PX c.cp G)) lss ls:=λF F' G G' _ sG h=>h.mono λ_ _ z=>z.mono λ_ _ z=>z.same sG
   have k34:=got3.keep.trans got1.keep
   obtain⟨l2,xs2,rfl,el2,da2⟩:=bg d2
   obtain⟨hl2W,el2⟩:=cW el2
   cases kJ da2
   refine evk (j:=2) rfl H4 k34 _ ⟨l2,_,rfl, .inl (SqL.of (k34 _ _ hl2W el2)),λD2 hD2=>⟨_,rfl,D2,W,_,rfl,ac hD2 _ _ _ eW4,by rw[l5,l5,l6,l6];have:=o1.1;omega,_,rfl,?_⟩⟩
   have hD2W:D2≠W:=λz=>by rw[z,eW4] at hD2;cases hD2
   have s45:=ac hD2 (.lst (sd.map λb=>vS (bU b)))
   have e45:upd H4 D2 (.lst (sd.map λb=>vS (bU b))) D2=some (.lst (sd.map λb=>vS (bU b))):=aa
   generalize upd H4 D2 (.lst (sd.map λb=>vS (bU b)))=H4' at s45 e45 ⊢
   generalize ho:HO.lst (ks++k3.map V.ref++k1.map V.ref++[.ref D2])=ow
   have got2:Got W H4 [D2] (upd H4' W ow) λ_ _=>True:=by
    refine⟨λb o nb e=>(af nb).trans (s45 b o e),λb hb=>?_,NewQ.triv trivial⟩
    unfold IsK
    rw[l20.mp hb,af hD2W]
    exact⟨hD2,_,e45,by rw[l6];omega⟩
   have eD5:upd H4' W ow D2=some (.lst (sd.map λb=>vS (bU b))):=(af hD2W).trans e45
   have eW5:upd H4' W ow W=some (.lst (ks++(k3++k1++[D2]).map V.ref)):=by rw[aa,<- ho];simp
   generalize upd H4' W ow=H5 at got2 eD5 eW5 ⊢
   have hW5:H5 W≠none:=by rw[eW5];exact λz=>nomatch z
   have g31:=got3.join got1 hWn hW3 mX2 mX1 (R:=λ_ G=>Zs (Zs (PX c.cp G)) lss ls/\Zs (PX c.cp G) hss hd) λF G a b=>⟨a,b⟩
   have m31:Mo2 λ_ G=>Zs (Zs (PX c.cp G)) lss ls/\Zs (PX c.cp G) hss hd:=λF F' G G' sF sG h=>⟨mX2 _ _ _ _ sF sG h.1,mX1 _ _ _ _ sF sG h.2⟩
   have gall:=g31.join got2 hWn hW4 m31 (λ_ _ _ _ _ _ z=>z) (R:=λ_ G=>Zs (Zs (PX c.cp G)) lss ls/\Zs (PX c.cp G) hss hd) λF G a _=>a
   have hz:lss.length=ls.length/\hss.length=hd.length/\∀l∈lss,l.length<=100000:=by
    obtain⟨G,_,_,_,z1,z2⟩:=g31.q
    refine⟨z1.len,z2.len,?_⟩
    have aux:∀{lss:List (List (List V))} {ls:List (List (List PC))},(∀l∈ls,CCs l)->Zs (Zs (PX c.cp G)) lss ls->∀l∈lss,l.length<=100000:=λ{lss ls}=>by
     induction lss generalizing ls with
     |nil=>intro _ _ l hl;exact nomatch hl
     |cons x lss ih=>
      intro ho z l hl
      cases ls with
      |nil=>exact z.elim
      |cons y ls=>
       rcases l9.mp hl with e |e
       ·rw[e,z.1.len];have:=(ho y l13).1;omega
       ·exact ih (λl' h'=>ho l' (l15 _ h')) z.2 l e
    exact aux o4 z1
   refine λy dx hy hd' hyd=>?_
   have sn:=ini0 (C:=c.Table) hy hd'
   have sh:Same (onL k1 H4) (upd (upd H5 dx (.own y)) y (.ins c.Table dx [])):=λb o e=>by
    obtain⟨hb,e⟩:=jo e
    exact sn _ _ (got2.keep b o (got1.ne hW3 hb) e)
   have sl:Same (onL k3 H3) (upd (upd H5 dx (.own y)) y (.ins c.Table dx [])):=λb o e=>by
    obtain⟨hb,e⟩:=jo e
    exact sn _ _ (got2.keep b o (got3.ne hWn hb) (got1.keep b o (got3.ne hWn hb) e))
   refine⟨y,dx,r1,D2,D,hss,_,lss,rfl,aa,ie _ _ _ _ sh eh4,by have:=o1.1;omega,sn _ _ eD5,gJ ie _ _ _ _ sl el3,by omega,hz.2.2,λh' s' l' H6 kx e1 e2 e3 e6y=>⟨rfl,?_⟩⟩
   have s56:=ini hy hd' kx
   have sd56:=bm (H2:=H6) (H3:=H6) sn (Same.refl _)
   have g6:=gall.add (S:=λG=>G y=some (.ins c.Table dx [("head", .ref h'),("sides", .ref s'),("lines", .ref l')])/\LV G h' hss/\G s'=some (.lst (sd.map λb=>vS (bU b)))/\LAt LV G l' lss) hWn hW5 s56 m31 (λG G' s h=>⟨s _ _ h.1,ie _ _ _ _ s h.2.1,s _ _ h.2.2.1,gJ ie _ _ _ _ s h.2.2.2⟩) ⟨by rw[ar hy];exact e6y,ie _ _ _ _ sd56 e1,sd56 _ _ e2,gJ ie _ _ _ _ sd56 e3⟩
   exact q y _ H6 (s56 _ _ eW5) (by rw[l5,l5];show _+1<=_;have:=o1.1;omega) (g6.map λF G h=>⟨dx,h',s',l',h.2.1,merge1 h.2.2.1 h.1.2,h.2.2.2.1,merge2 h.2.2.2.2 h.1.1⟩)
end
theorem CPs.sum {ps:List PC}(h:CPs ps):(ps.map szC).sum<=1600:=by
 have h1:∀l:List PC,(∀p∈l,szC p<=400)->(l.map szC).sum<=400 * l.length:=λl hl=>by
  induction l with
  |nil=>exact l7 _
  |cons p l ih=>
   have a:=hl p l13
   have b:=ih λx hx=>hl x (l15 _ hx)
   rw[l19,l35,l8]
   omega
 have h2:=h1 ps λp hp=>(h.2 p hp).2
 have:=h.1
 omega
theorem CPs.ok {ps:List PC}(h:CPs ps):OkPs ps:=⟨by have:=h.1;omega,λp hp=>(h.2 p hp).1,by have:=h.sum;omega⟩
theorem CPs.raw {ps:List PC}(h:CPs ps):(raws false ps).length<=6400/\Asc (raws false ps):=by
 obtain⟨a,b⟩:=pX (b:=false) h.ok.ok
 exact⟨by have:=h.sum;omega,b⟩
theorem CCs.ok {cs:List (List PC)}(h:CCs cs):OkCs cs:=⟨by have:=h.1;omega,λps hp=>(h.2 ps hp).ok⟩
theorem GE.ok:∀{n:Nat} {e:En n},GE n e->OkE n e
 |0,e,_=>nomatch e
 |n+1,e,h=>⟨h.1.c.ok,by have:=h.2.1;omega,λx hx=>(h.2.2 x hx).ok⟩
theorem GBF.ok {β:Type}{ok ok':β->Prop}(k:∀b,ok b->ok' b):∀{b:BkF β},GBF ok b->OkBF ok' b
 | .heading _ _,h=>⟨h.1,SPs.c h.2 |>.ok⟩
 | .para _,h=>(SPs.c h).ok
 | .lst _,h=>⟨l10 h.1 (by decide),λe he=>(h.2 e he).ok⟩
 | .table _ _ _,h=>⟨h.1.ok,l10 h.2.1 (by decide),l10 h.2.2.1 (by decide),λl hl=>(h.2.2.2 l hl).ok⟩
 | .lit _,h=>⟨l10 h.1 (by decide),λl hl=>⟨(h.2 l hl).1,l10 (h.2 l hl).2 (by decide)⟩⟩
 | .quote _,h=>⟨l10 h.1 (by decide),λb hb=>k b (h.2 b hb)⟩
 | .name _ _,h=>⟨⟨h.1.1,l10 h.1.2 (by decide)⟩,h.2.1,l10 h.2.2 (by decide)⟩
 | .note _ _,h=>⟨⟨h.1.1,l10 h.1.2 (by decide)⟩,(SPs.c h.2).ok⟩
theorem GB.ok:∀{n:Nat} {b:Bl n},GB n b->OkB n b
 |0,_,h=>GBF.ok (λz=>nomatch z) h
 |_+1,_,h=>GBF.ok (λ_ z=>GB.ok z) h
def RowsIn (N L:Nat)(rs:List (List Nat)):Prop:=rs.length<=N/\∀r∈rs,r.length<=L/\Asc r
theorem RowsIn.mono {N L N' L':Nat}{rs:List (List Nat)}(h:RowsIn N L rs)(hN:N<=N')(hL:L<=L'):RowsIn N' L' rs:=⟨l10 h.1 hN,λr hr=>⟨l10 (h.2 r hr).1 hL,(h.2 r hr).2⟩⟩
theorem RowsIn.app {N M L:Nat}{rs qs:List (List Nat)}(h:RowsIn N L rs)(k:RowsIn M L qs):RowsIn (N+M) L (rs++qs):=⟨by rw[l5];exact Nat.add_le_add h.1 k.1,λr hr=>(l18.mp hr).elim (h.2 r) (k.2 r)⟩
theorem RowsIn.one {L:Nat}{r:List Nat}(h:r.length<=L)(a:Asc r):RowsIn 1 L [r]:=⟨l7 _,λx hx=>by rw[l20.mp hx];exact⟨h,a⟩⟩
theorem RowsIn.nil {N L:Nat}:RowsIn N L []:=⟨l14 _,λ_ z=>nomatch z⟩
def nE:Nat->Nat
 |0=>0
 |n+1=>2 * (1+nE n)
theorem nh:∀{n:Nat} {ah:List Nat} {es:List (En n)},Asc ah->es.length<=2->(∀e∈es,GE n e)->RowsIn (nE n) (ah.length+2 * n+6500) (bo n ah es)
 |0,_,_,_,_,_ => .nil
 |n+1,ah,es,ha,hl,hg=>by
  have one:∀e∈es,RowsIn (1+nE n) (ah.length+2 * (n+1)+6500) ((ah++bI (EnF.sign e)++[32]++raws false (EnF.parts e))::bo n (ah++[32,32]) (EnF.within e)):=λe he=>by
   obtain⟨h1,h2,h3⟩:=hg e he
   obtain⟨r1,r2⟩:=h1.c.raw
   have hsg:(bI (EnF.sign e)).length=1/\Asc (bI (EnF.sign e)):=by cases EnF.sign e <;> exact⟨rfl,aI _ rfl⟩
   refine(RowsIn.one (r:=ah++bI (EnF.sign e)++[32]++raws false (EnF.parts e)) ?_ (ay (ay (ay ha hsg.2) (aI _ rfl)) r2)).app ((nh (ay ha (aI _ rfl)) h2 h3).mono (l7 _) ?_)
   ·simp only[l5]
    show ah.length+_+1+_<=_
    rw[hsg.1];omega
   ·rw[l5];show ah.length+2+_+_<=_;omega
  have all:∀zs:List (En (n+1)),(∀e∈zs,e∈es)->RowsIn (zs.length * (1+nE n)) (ah.length+2 * (n+1)+6500) (bo (n+1) ah zs):=λzs=>by
   induction zs with
   |nil=>intro _;exact .nil
   |cons e zs ih=>
    intro h
    have:=(one e (h e l13)).app (ih λx hx=>h x (l15 _ hx))
    exact this.mono (by rw[l8,l54];omega) (l7 _)
  exact(all es λ_ h=>h).mono (l53 _ hl) (l7 _)
theorem esc_in {l:List Nat}(h:Asc l):(Lm.escC l).length<=2 * l.length/\Asc (Lm.escC l):=by
 rw[jh]
 refine⟨?_,λc hc=>?_⟩
 ·induction l with
  |nil=>exact l7 _
  |cons x l ih=>
   rw[l59,l5,l8]
   have h1:(if x=124 then [92,124] else [x]:List Nat).length<=2:=by split <;> simp
   have h2:=ih λc hc=>h c (l15 _ hc)
   omega
 ·obtain⟨x,hx,hc⟩:=List.mem_flatMap.mp hc
  split at hc
  ·exact aI [92,124] rfl c hc
  ·rw[l20.mp hc];exact h x hx
theorem cell_in {ps:List PC}(h:CPs ps):(bR ps).length<=12802/\Asc (bR ps):=by
 obtain⟨r1,r2⟩:=h.raw
 have key:(if d9 (raws false ps) then 92::raws false ps else raws false ps).length<=6401/\Asc (if d9 (raws false ps) then 92::raws false ps else raws false ps):=by
  split
  ·exact⟨by rw[l8];omega,λc hc=>(l9.mp hc).elim (λz=>by rw[z];decide) (r2 c)⟩
  ·exact⟨by omega,r2⟩
 obtain⟨e1,e2⟩:=esc_in key.2
 exact⟨l10 e1 (by have:=key.1;omega),e2⟩
theorem qQ {L:Nat}:∀{ts:List (List Nat)},(∀t∈ts,t.length<=L/\Asc t)->(bZ ts).length<=1+ts.length * (L+3)/\Asc (bZ ts):=λ{ts} h=>by
 have aux:∀ts:List (List Nat),(∀t∈ts,t.length<=L/\Asc t)->(ts.flatMap barF).length<=ts.length * (L+3)/\Asc (ts.flatMap barF):=λts=>by
  induction ts with
  |nil=>intro _;exact⟨l14 _,λ_ z=>nomatch z⟩
  |cons t ts ih=>
   intro h
   obtain⟨i1,i2⟩:=ih λx hx=>h x (l15 _ hx)
   obtain⟨t1,t2⟩:=h t l13
   have hb:(barF t).length<=L+3/\Asc (barF t):=by
    unfold barF
    split
    ·exact⟨by show 2<=_;omega,aI _ rfl⟩
    ·exact⟨by simp only[l5];show 1+_+2<=_;omega,ay (ay (aI _ rfl) t2) (aI _ rfl)⟩
   rw[l59,l5,l8,l54]
   exact⟨by have:=hb.1;omega,ay hb.2 i2⟩
 obtain⟨a1,a2⟩:=aux ts h
 exact⟨by unfold bZ;rw[l5];show 1+_<=_;exact Nat.add_le_add_left a1 1,ay (aI _ rfl) a2⟩
theorem qR {cs:List (List PC)}(h:CCs cs):(bi cs).length<=40000/\Asc (bi cs):=by
 obtain⟨b1,b2⟩:=qQ (L:=12802) (ts:=cs.map bR) λt ht=>by
  obtain⟨ps,hp,rfl⟩:=l32.mp ht
  exact cell_in (h.2 ps hp)
 rw[l6] at b1
 have h3:cs.length * (12802+3)<=3 * (12802+3):=l53 _ h.1
 exact⟨l10 b1 (by omega),b2⟩
theorem sides_in {sd:List Bool}(h:sd.length<=3):(ca sd).length<=40000/\Asc (ca sd):=by
 obtain⟨b1,b2⟩:=qQ (L:=3) (ts:=sd.map sdG) λt ht=>by
  obtain⟨b,_,rfl⟩:=l32.mp ht
  cases b <;> exact⟨by decide,aI _ rfl⟩
 rw[l6] at b1
 have h3:sd.length * (3+3)<=3 * (3+3):=l53 _ h
 exact⟨l10 b1 (by omega),b2⟩
theorem lines_in {ls : List (List (List PC))} (h : ∀ l ∈ ls, CCs l) : RowsIn ls.length 40000 (ls.map bi) := ⟨by rw[l6];exact l7 _,λr hr=>by
 obtain⟨l,hl,rfl⟩:=l32.mp hr
 exact qR (h l hl)⟩
theorem qS {N L:Nat}:∀{rs:List (List (List Nat))},(∀r∈rs,RowsIn N L r)->RowsIn (rs.length * (N+1)) L (betw rs)
 | [],_ => .nil
 |r::rs,h=>by
  have aux:∀qs:List (List (List Nat)),(∀r∈qs,RowsIn N L r)->RowsIn (qs.length * (N+1)) L (qs.flatMap λq=>[]::q):=λqs=>by
   induction qs with
   |nil=>intro _;exact .nil
   |cons q qs ih=>
    intro h
    have h0:RowsIn 1 L [([]:List Nat)] := .one (l14 _) λ_ z=>nomatch z
    have:=(h0.app (h q l13)).app (ih λx hx=>h x (l15 _ hx))
    exact this.mono (by rw[l8,l54];omega) (l7 _)
  exact((h r l13).app (aux rs λx hx=>h x (l15 _ hx))).mono (by rw[l8,l54];omega) (l7 _)
theorem kK {β:Type}{ok:β->Prop}{fr:β->List (List Nat)}{N L:Nat}(hL:40000<=L)(k:∀b,ok b->RowsIn N L (fr b)):∀{b:BkF β},GBF ok b->RowsIn (2 * N+130) (L+2) (fM aL fr b)
 | .heading n ps,h=>by
  obtain⟨r1,r2⟩:=(SPs.c h.2).raw
  refine(RowsIn.one ?_ (ay (ay (λc hc=>by rw[l91 hc];decide) (aI _ rfl)) r2)).mono (by omega) (l7 _)
  simp only[l5,l77]
  show n+1+_<=_
  have:=h.1
  omega
 | .para ps,h=>by
  obtain⟨r1,r2⟩:=(SPs.c h).raw
  refine(RowsIn.one (L:=L+2) (r:=if aL (raws false ps) then raws false ps else 92::raws false ps) ?_ ?_).mono (by omega) (l7 _)
  ·split
   ·omega
   ·rw[l8];omega
  ·split
   ·exact r2
   ·exact λc hc=>(l9.mp hc).elim (λz=>by rw[z];decide) (r2 c)
 | .lst es,h=>(nh (n:=6) (ah:=[]) (λ_ z=>nomatch z) h.1 h.2).mono (by show 126<=_;omega) (by show 0+12+6500<=_;omega)
 | .table hd sd ls,h=>by
  have hl:=(lines_in h.2.2.2).mono (N':=3) h.2.2.1 (l7 _)
  show RowsIn _ _ (if hd=[] then ls.map bi else [bi hd,ca sd]++ls.map bi)
  split
  ·exact hl.mono (by omega) (by omega)
  ·obtain⟨a1,a2⟩:=qR h.1
   obtain⟨b1,b2⟩:=sides_in h.2.1
   exact(((RowsIn.one a1 a2).app (RowsIn.one b1 b2)).app hl).mono (by omega) (by omega)
 | .lit ls,h=>by
  have h0:RowsIn 1 100 [([126,126,126]:List Nat)] := .one (by decide) (aI _ rfl)
  have h1:RowsIn 3 100 ls:=⟨h.1,λl hl=>⟨(h.2 l hl).2,(h.2 l hl).1⟩⟩
  exact((h0.app h1).app h0).mono (by omega) (by omega)
 | .quote bs,h=>by
  show RowsIn _ _ (if bs.isEmpty then [[62]] else (betw (bs.map fr)).map fb)
  split
  ·exact(RowsIn.one (L:=L+2) (by show 1<=_;omega) (aI _ rfl)).mono (by omega) (l7 _)
  ·have hb:=qS (rs:=bs.map fr) λr hr=>by
    obtain⟨b,hb,rfl⟩:=l32.mp hr
    exact k b (h.2 b hb)
   rw[l6] at hb
   have h2:bs.length * (N+1)<=2 * (N+1):=l53 _ h.1
   refine⟨by rw[l6];have:=hb.1;omega,λr hr=>?_⟩
   obtain⟨q,hq,rfl⟩:=l32.mp hr
   obtain⟨q1,q2⟩:=hb.2 q hq
   unfold fb
   split
   ·exact⟨by show 1<=_;omega,aI _ rfl⟩
   ·exact⟨by rw[l5];show 2+_<=_;omega,ay (aI _ rfl) q2⟩
 | .name n t,h=>by
  refine(RowsIn.one ?_ (ay (ay (ay (aI _ rfl) h.1.1) (aI _ rfl)) h.2.1)).mono (by omega) (l7 _)
  simp only[l5]
  show 1+_+3+_<=_
  have:=h.1.2
  have:=h.2.2
  omega
 | .note n ps,h=>by
  obtain⟨r1,r2⟩:=(SPs.c h.2).raw
  refine(RowsIn.one ?_ (ay (ay (ay (aI _ rfl) h.1.1) (aI _ rfl)) r2)).mono (by omega) (l7 _)
  simp only[l5]
  show 2+_+3+_<=_
  have:=h.1.2
  omega
def nB:Nat->Nat
 |0=>130
 |n+1=>2 * nB n+130
theorem jr:∀{n:Nat} {b:Bl n},GB n b->RowsIn (nB n) (40002+2 * n) (cC aL n b)
 |0,b,h=>(kK (N:=0) (l7 40000) (λz=>nomatch z) h).mono (l7 _) (l7 _)
 |n+1,b,h=>(kK (L:=40002+2 * n) (by omega) (λx z=>jr z) h).mono (l7 _) (by omega)
theorem all_ok {bs:List (Bl 4)}(hl:bs.length<=3)(h:∀b∈bs,GB 4 b):RowsOk (betw (bs.map (cC aL 4))):=by
 have hb:=qS (N:=nB 4) (L:=40002+2 * 4) (rs:=bs.map (cC aL 4)) λr hr=>by
  obtain⟨b,hb,rfl⟩:=l32.mp hr
  exact jr (h b hb)
 rw[l6] at hb
 have h2:bs.length * (nB 4+1)<=3 * (nB 4+1):=l53 _ hl
 exact hb.mono (l10 h2 (by decide)) (by decide)
end K11
namespace L2
open PySem PySem.Spec PyProof.Rows
section
variable {X:Cx}{tg:Expr}
def iAny (K:PySem.W.Frag)(tl:TE):TI:=λσ H R=>tl σ H λx H1=>∃a,x = .ref a/\(((∃xs,SqL K H1 a xs)/\R (Itl K a) H1) ∨ ((∃xs,SqT K H1 a xs)/\R (Itt K a) H1))
theorem pi_any {l:Expr}{tl:TE}(hl:PE X l tl):PI X tg l (iAny X.K tl):=by
 intro pins s σ H R I h
 refine thn (hl pins s σ H _ I h) λv s1 ⟨x,H1,I1,r1,q1⟩=>?_
 obtain⟨a,e,q1⟩:=q1
 subst e
 cases r1
 rcases q1 with ⟨⟨xs,hq⟩,q⟩ |⟨⟨xs,hq⟩,q⟩
 ·obtain⟨its,rv,p,hz⟩:=I1.list hq
  refine wpAny_pyIter_list p.isList ?_
  refine⟨s1.heap.objs.size,[s1.heap.objs.size],_,_,H1,rfl,I1.kept (t':=s1.toks) λb o e=>Heap.get?_push_of_some _ e,jw a _,⟨_,Heap.get?_push_size _ rfl,rfl,rfl⟩,λb hb=>?_,q⟩
  have e:b=s1.heap.objs.size:=by simpa using hb
  subst e
  exact I1.fpOk (l7 _) (I1.hok.fresh (l7 _))
 ·obtain⟨its,rv,p,hz⟩:=I1.tuple hq
  refine wpAny_pyIter_tuple (show s1.heap.IsTuple a its.toArray from p) ?_
  refine⟨s1.heap.objs.size,[s1.heap.objs.size],_,_,H1,rfl,I1.kept (t':=s1.toks) λb o e=>Heap.get?_push_of_some _ e,nv a _,⟨_,Heap.get?_push_size _ rfl,rfl,rfl⟩,λb hb=>?_,q⟩
  have e:b=s1.heap.objs.size:=by simpa using hb
  subst e
  exact I1.fpOk (l7 _) (I1.hok.fresh (l7 _))
theorem xia {l:Expr}{tl:TE}(h:XE X l tl):XI X tg l (iAny X.K tl):=⟨pi_any h.h⟩
end
inductive Flt2 (H:Hp):V->Value->Prop where
 |flt {v:V} {t:Value}:Flt H v t->Flt2 H v t
 |tup {a:Addr} {xs:List V}:H a=some (.tup xs)->Flt2 H (.ref a) (.type "tuple")
 |bl (b:Bool):Flt2 H (.bl b) (.type "bool")
 |non:Flt2 H .non (.type "NoneType")
def rIsTs2 (K:PySem.W.Frag):List V->Hp->VK->Prop:=λxs H Q=>∃(x:V) (t:Value) (p:Addr) (Ts:List String) (b:Bool),xs=[x, .ref p]/\Flt2 H x t/\H p=some (.tup (Ts.map V.ty))/\PySem.W.kitAny K t (Ts.map Value.type)=some b/\Q (.bl b) H
theorem iJ {X:Cx}:dW X (.builtin "isinstance") (rIsTs2 X.K):=by
 intro pins s σ H xs us Q I r h
 obtain⟨x,t,p,Ts,b,rfl,ty,hp,e,q⟩:=h
 cases ty with
 |flt ty=>exact o6 pins s σ H _ us Q I r ⟨x,t,p,Ts,b,rfl,ty,hp,e,q⟩
 | @tup a xs ea=>
  obtain⟨u,v,rfl,rx,rv⟩:=r.two
  cases rv
  obtain⟨hz,its,rt,o,h1,h2,n,h3⟩:=(show ObjOk X.prog X.w H s.heap p (.tup (Ts.map V.ty)) from I.hok p _ hp)
  obtain⟨oc,od,oda,osl⟩:=o
  cases h2
  have h3:oda = .seq its.toArray n:=h3
  subst h3
  rw[gn rt] at h1
  cases (show u=Value.ref a from rx)
  obtain⟨_,its2,rt2,o2,h4,h5,_⟩:=(show ObjOk X.prog X.w H s.heap a (.tup xs) from I.hok a _ ea)
  exact wpAny_with_toks (n:=1) I.tk (PySem.W.kia_tup PySem.W.kitx_tuple I.kIn ⟨_,h4,h5⟩ h1 e (λz=>nomatch z) λtk htk=>⟨.bl b,H,I.tok _ htk,rfl,q⟩)
 |bl b'=>
  obtain⟨u,v,rfl,rx,rv⟩:=r.two
  cases rv
  obtain⟨hz,its,rt,o,h1,h2,n,h3⟩:=(show ObjOk X.prog X.w H s.heap p (.tup (Ts.map V.ty)) from I.hok p _ hp)
  obtain⟨oc,od,oda,osl⟩:=o
  cases h2
  have h3:oda = .seq its.toArray n:=h3
  subst h3
  rw[gn rt] at h1
  cases (show u=Value.bool b' from rx)
  exact wpAny_with_toks (n:=1) I.tk (PySem.W.kia_tup PySem.W.kitx_bool I.kIn True.intro h1 e (λz=>nomatch z) λtk htk=>⟨.bl b,H,I.tok _ htk,rfl,q⟩)
 |non=>
  obtain⟨u,v,rfl,rx,rv⟩:=r.two
  cases rv
  obtain⟨hz,its,rt,o,h1,h2,n,h3⟩:=(show ObjOk X.prog X.w H s.heap p (.tup (Ts.map V.ty)) from I.hok p _ hp)
  obtain⟨oc,od,oda,osl⟩:=o
  cases h2
  have h3:oda = .seq its.toArray n:=h3
  subst h3
  rw[gn rt] at h1
  cases (show u=Value.none from rx)
  exact wpAny_with_toks (n:=1) I.tk (PySem.W.kia_tup PySem.W.kitx_none I.kIn True.intro h1 e (λz=>nomatch z) λtk htk=>⟨.bl b,H,I.tok _ htk,rfl,q⟩)
end L2
namespace K11
open PySem L2 Lm Lw PySem.Builtin.Int
def kL:V := .str "more"
structure Lg (G G':Hp):Prop where
 tup:∀b xs,G b=some (.tup xs)->G' b=some (.tup xs)
 lst:∀b xs,G b=some (.lst xs)->∃k,G' b=some (.lst (xs++List.replicate k kL))
 off:∀b,G b=none->G' b=none
theorem Lg.refl (G:Hp):Lg G G:=⟨λ_ _ h=>h,λ_ _ h=>⟨0,by rw[h];simp⟩,λ_ h=>h⟩
theorem Lg.trans {G G1 G2 : Hp} (a : Lg G G1) (b : Lg G1 G2) : Lg G G2 := ⟨λx xs h=>b.tup _ _ (a.tup _ _ h),λx xs h=>by
 obtain⟨k,h1⟩:=a.lst x xs h
 obtain⟨j,h2⟩:=b.lst _ _ h1
 exact⟨k+j,by rw[h2,l24,List.replicate_append_replicate]⟩,λx h=>b.off _ (a.off _ h)⟩
def LenB (m:Nat)(G:Hp):Prop:=∀b xs,G b=some (.lst xs)->xs.length<=m
theorem LenB.mono {m m':Nat}{G:Hp}(h:LenB m G)(k:m<=m'):LenB m' G:=λb xs e=>l10 (h b xs e) k
theorem qT {G : Hp} {a : Addr} {ys : List V} (e : G a = some (.lst ys)) : Lg G (upd G a (.lst (ys ++ [kL]))) := ⟨λb xs h=>(af λz=>by rw[z,e] at h;cases h).trans h,λb xs h=>by
 by_cases z:b=a
 ·rw[z,e] at h
  cases h
  exact⟨1,by rw[z,aa];rfl⟩
 ·exact⟨0,by rw[af z,h];simp⟩,λb h=>(af λz=>by rw[z,e] at h;cases h).trans h⟩
theorem len_more {G:Hp}{a:Addr}{ys:List V}{m:Nat}(e:G a=some (.lst ys))(h:LenB m G):LenB (m+1) (upd G a (.lst (ys++[kL]))):=λb xs k=>by
 by_cases z:b=a
 ·rw[z,aa] at k
  cases k
  have:=h a ys e
  rw[l5]
  show _+1<=_
  omega
 ·rw[af z] at k
  exact Nat.le_succ_of_le (h b xs k)
end K11
namespace L2
open PySem Lm
mutual
theorem Dn.det {G:Hp}:∀{v:V} {d d':PyData},Dn G v d->Dn G v d'->d=d'
 |_,_,_, .non,h=>by cases h;rfl
 |_,_,_, .bl b,h=>by cases h;rfl
 |_,_,_, .int i,h=>by cases h;rfl
 |_,_,_, .str x a b,h=>by cases h;rfl
 |_,_,_, .lst e r l,h=>by
  cases h with
  |lst e' r' l'=>
   rw[e] at e'
   cases e'
   rw[r.det r']
  |tup e' r'=>rw[e] at e';cases e'
 |_,_,_, .tup e r,h=>by
  cases h with
  |lst e' r' l'=>rw[e] at e';cases e'
  |tup e' r'=>
   rw[e] at e'
   cases e'
   rw[r.det r']
theorem DnAll.det {G:Hp}:∀{vs:List V} {ds ds':List PyData},DnAll G vs ds->DnAll G vs ds'->ds=ds'
 |_,_,_, .nil,h=>by cases h;rfl
 |_,_,_, .cons a r,h=>by
  cases h with
  |cons a' r'=>rw[a.det a',r.det r']
end
theorem g9 {d:PyData}:∀{ds:List PyData},d∈ds->d.depth<=PyData.depthAll ds
 | [],h=>nomatch h
 |x::ds,h=>by
  unfold PyData.depthAll
  rcases l9.mp h with z |z
  ·subst z;omega
  ·have:=g9 z
   omega
theorem fu {d:PyData}{ds:List PyData}(h:d∈ds):d.depth < (PyData.list ds).depth:=by
 have:=g9 h
 rw[PyData.depth]
 omega
theorem fN {d:PyData}{ds:List PyData}(h:d∈ds):d.depth < (PyData.tuple ds).depth:=by
 have:=g9 h
 rw[PyData.depth]
 omega
mutual
def nlD:PyData->Nat
 | .list ds=>nlA ds+1
 | .tuple ds=>nlA ds
 |_=>0
def nlA:List PyData->Nat
 | []=>0
 |d::ds=>nlD d+nlA ds
end
theorem js:∀(as bs:List PyData),nlA (as++bs)=nlA as+nlA bs
 | [],bs=>by rw[l55,nlA,l66]
 |a::as,bs=>by rw[List.cons_append,nlA,nlA,js as bs,Nat.add_assoc]
theorem nlA_take {ds:List PyData}{i:Nat}{d:PyData}(h:ds[i]? = some d):nlA (ds.take (i+1))=nlA (ds.take i)+nlD d:=by
 rw[l42,h,js]
 show nlA (ds.take i)+nlA [d]=_
 rw[nlA,nlA,Nat.add_zero]
end L2
namespace K11
open PySem L2 Lm Lw PySem.Builtin.Int
structure TxE (mg:Str->Option Value):Prop extends TxD mg where
 n_isinstance:mg "isinstance"=none
 n_tuple:mg "tuple"=none
 n_list:mg "list"=none
 n_bool:mg "bool"=none
 n_zip:mg "zip"=none
 n_all:mg "all"=none
structure Lo (G0 G:Hp)(H:Hp)(dp c m:Nat)(G' H':Hp):Prop where
 lg0:Lg G0 G'
 lg:Lg G G'
 same:Same G' H'
 len:LenB (m+c) G'
 off:∀b o,G b=none->H b=some o->H' b=some o
 deep:∀b,(∀d',Dn G0 (.ref b) d'->dp < d'.depth)->G' b=G b
section
abbrev mh:Stmt:=top 89
theorem scLonger:FnScope ["_law_told","_law_one"] ["_law_told"] (ad mh):=mkS
def kM (n:Nat):Sp:=λvs H Q _=>∃(v:V) (d:PyData) (G0 G:Hp) (m:Nat),vs=[v]/\Dn G0 v d/\d.depth<=n/\Lg G0 G/\Same G H/\LenB m G/\m+nlD d<=1000000/\∀G' H',Lo G0 G H d.depth (nlD d) m G' H'->Q .non H'
theorem Lo.refl {G0 G H H':Hp}{dp c m:Nat}(a:Lg G0 G)(s:Same G H)(l:LenB m G)(k:Same H H'):Lo G0 G H dp c m G H':=⟨a,Lg.refl G,s.trans k,l.mono (l63 _ _),λb o _ e=>k _ _ e,λ_ _=>rfl⟩
theorem Lo.seq {G0 G H G1 H1 G2 H2:Hp}{dp dp2 dp3 c c2 m:Nat}(h:Lo G0 G H dp c m G1 H1)(k:Lo G0 G1 H1 dp2 c2 (m+c) G2 H2)(h1:dp<=dp3)(h2:dp2<=dp3):Lo G0 G H dp3 (c+c2) m G2 H2:=
 ⟨k.lg0,h.lg.trans k.lg,k.same,by have:=k.len;rwa [Nat.add_assoc] at this,λb o e1 e2=>k.off b o (h.lg.off b e1) (h.off b o e1 e2),λb hb=>(k.deep b λd' hd=>Nat.lt_of_le_of_lt h2 (hb d' hd)).trans (h.deep b λd' hd=>Nat.lt_of_le_of_lt h1 (hb d' hd))⟩
theorem lg_flt {G0 G H:Hp}{v:V}{d:PyData}(h:Dn G0 v d)(l:Lg G0 G)(s:Same G H):Flt2 H v (.type (tyD d)):=by
 cases h with
 |non=>exact .non
 |bl b=>exact .bl b
 |int i=>exact .flt (.int i)
 |str x _ _=>exact .flt (.str x)
 |lst e _ _=>obtain⟨k,e2⟩:=l.lst _ _ e;exact .flt (.lst (s _ _ e2))
 |tup e _=>exact .tup (s _ _ (l.tup _ _ e))
theorem lg_ty {G0 G H:Hp}{v:V}{d:PyData}(h:Dn G0 v d)(l:Lg G0 G)(s:Same G H):TyOf K H v (.type (tyD d)):=by
 cases h with
 |non=>exact .non
 |bl b=>exact .bl b
 |int i=>exact .int i
 |str x _ _=>exact .str x
 |lst e _ _=>obtain⟨k,e2⟩:=l.lst _ _ e;exact .lst (s _ _ e2)
 |tup e _=>exact .tup (s _ _ (l.tup _ _ e))
theorem qU (K:PySem.W.Frag)(d:PyData):PySem.W.kitAny K (.type (tyD d)) (["tuple","list"].map Value.type)=some (tyD d=="tuple"||tyD d=="list"):=by
 cases d <;> with_unfolding_all rfl
theorem qV {k n:Nat}{spI:Sp}(F:Fun K "_law_longer" "_law_longer" mh f fd)(T:TxE mg)(D_l_longer:Def P w K mg base k "_law_longer" ["_law_told"] spI)(hI:∀j,n=j+1->∀vs H Q E,kM j vs H Q E->spI vs H Q E):FnOk P w K mg base CX0 (k+2) f fd ["_law_told"] (kM n):=by
 have sc:=scLonger
 refine F.oks sc λcdv A outer s H vs Q E hr h=>?_
 obtain⟨v,d,G0,G,m,rfl,dv,hdn,l0,sG,hlen,hm,q⟩:=h
 refine ao (xbc (xif (bA (xcB iJ T.n_isinstance rfl (xac (xv 0) (xac (xtup (xac (xty (T:="tuple") T.n_tuple rfl) (xac (xty (T:="list") T.n_list rfl) xa0))) xa0)))) (xb1 (xfor PassesOwn.never rfl (xia (xv 0)) (xgn (i:=1) sc.nd rfl (Or.inl rfl))
  (xb1 (b8 (xcd D_l_longer hr (xac (xv 1) xa0)))))) xb0)
  (xb1 (xif (bA (xcB bC T.n_isinstance rfl (xac (xv 0) (xac (xty (T:="list") T.n_list rfl) xa0)))) (xb1 (b8 (xm PySem.F.plainAttrs_list PySem.F.slot_list_append PySem.F.type_list_append aP (xv 0) (xac xstr xa0)))) xb0))) ?_
 have hs:sizeLine=16777216:=sizeLine_eq
 rw[show aS ["_law_told","_law_one"] [v]=[some v,none] from rfl]
 refine bt (λσ' H'=>∃(G':Hp) (x1:Option V),σ'=[some v,x1]/\Lo G0 G H (d.depth - 1) (nlD d - (if tyD d=="list" then 1 else 0)) m G' H'/\(∀a,v = .ref a->G' a=G a)) (λN hN=>?_) ?_
 ·refine s_if (tyD d=="tuple"||tyD d=="list") (λR kk=>⟨_,rfl,big (show (2:Nat)<=1000000 by decide),λp hp=>⟨v,_,p,["tuple","list"],_,rfl,lg_flt dv l0 (sG.trans (ac hp _)),aa,qU K d,_,rfl,kk _ (ac hp _)⟩⟩) (λH1 s1 z=>?_) λH1 s1 z=>hN _ _ ⟨G,none,rfl, .refl l0 sG hlen s1,λ_ _=>rfl⟩
  have loop:∀(a:Addr) (ys:List V) (es:List PyData),v = .ref a->DnAll G0 ys es->(∀e∈es,e.depth < d.depth)->nlA es=nlD d - (if tyD d=="list" then 1 else 0)->∀(i:Nat) x σ H3,ys[i]? = some x->(∃(G':Hp) (x1:Option V),σ=[some v,x1]/\Lo G0 G H (d.depth - 1) (nlA (es.take i)) m G' H3)->∀(C:V->Hp->Prop),(∀H4,(∃(G':Hp),Lo G0 G H (d.depth - 1) (nlA (es.take (i+1))) m G' H4)->C .non H4)->spI [x] H3 C E0:=λa ys es hv da hdep hnl i x σ H3 hx hP C hC=>by
   obtain⟨G',x1,rfl,lo⟩:=hP
   obtain⟨e,he,dx⟩:=da.getV hx
   have hlt:=hdep e (l17 he)
   obtain⟨j,rfl⟩:∃j,n=j+1:=⟨n - 1,by omega⟩
   have htk:=nlA_take he
   have hle:nlA (es.take (i+1))<=nlA es:=by
    have:=js (es.take (i+1)) (es.drop (i+1))
    rw[l58] at this
    omega
   refine hI j rfl _ _ _ _ ⟨x,e,G0,G',m+nlA (es.take i),rfl,dx,by omega,lo.lg0,lo.same,lo.len,by omega,λG2 H4 lo2=>hC H4 ⟨G2,by rw[htk];exact lo.seq lo2 (l7 _) (by omega)⟩⟩
  have dv0:=dv
  cases dv with
  |non=>cases z
  |bl b=>cases z
  |int i=>cases z
  |str x _ _=>cases z
  | @tup a xs ds e da=>
   have hdp:1<=(PyData.tuple ds).depth:=by rw[PyData.depth];omega
   refine⟨_,rfl,a,rfl, .inr ⟨⟨_,SqT.of (s1 _ _ (sG _ _ (l0.tup _ _ e)))⟩,for_tup (xs:=xs) (λi σ H'=>∃(G':Hp) (x1:Option V),σ=[some (.ref a),x1]/\Lo G0 G H ((PyData.tuple ds).depth - 1) (nlA (ds.take i)) m G' H') ⟨G,none,rfl, .refl l0 sG hlen s1⟩ ?_ ?_ ?_⟩⟩
   ·rintro i σ H3 _ ⟨G',x1,rfl,lo⟩
    exact SqT.of (lo.same _ _ (lo.lg0.tup _ _ e))
   ·rintro i x σ H3 hx ⟨G',x1,rfl,lo⟩
    exact⟨_,rfl,loop a xs ds rfl da (λe he=>fN he) rfl i x _ H3 hx ⟨G',x1,rfl,lo⟩ _ λH4 ⟨G4,lo4⟩=>⟨G4,_,rfl,lo4⟩⟩
   ·rintro σ H3 ⟨G',x1,rfl,lo⟩
    rw[da.len,l40] at lo
    exact hN _ _ ⟨G',x1,rfl,lo,λa' e'=>by cases e';exact lo.deep a λd' hd'=>by rw[<- dv0.det hd'];omega⟩
  | @lst a xs ds e da hl=>
   have hdp:1<=(PyData.list ds).depth:=by rw[PyData.depth];omega
   obtain⟨kk,eG⟩:=l0.lst _ _ e
   have da2 : DnAll G0 (xs ++ List.replicate kk kL) (ds ++ List.replicate kk (.str "more")) := da.app (by
    clear eG
    induction kk with
    |zero=>exact .nil
    |succ kk ih=>exact .cons (.str _ (by decide +kernel) (by decide)) ih)
   have hnl:nlA (ds++List.replicate kk (.str "more"))=nlA ds:=by
    rw[js]
    have:nlA (List.replicate kk (PyData.str "more"))=0:=by
     clear eG da2
     induction kk with
     |zero=>rw[List.replicate_zero,nlA]
     |succ kk ih=>rw[l49,nlA,ih];rfl
    omega
   have hdep2:∀e∈ds++List.replicate kk (PyData.str "more"),e.depth < (PyData.list ds).depth:=λe he=>by
    rcases l18.mp he with z |z
    ·exact fu z
    ·rw[l91 z]
     show 0 < _
     omega
   have still:∀{G' H3:Hp} {c:Nat},Lo G0 G H ((PyData.list ds).depth - 1) c m G' H3->G' a=G a:=λlo=>lo.deep a λd' hd'=>by rw[<- dv0.det hd'];omega
   generalize hys:xs++List.replicate kk kL=ys at eG da2
   generalize hes:ds++List.replicate kk (PyData.str "more")=es at da2 hnl hdep2
   refine⟨_,rfl,a,rfl, .inl ⟨⟨_,SqL.of (s1 _ _ (sG _ _ eG))⟩,bN (xs:=ys) (λi σ H'=>∃(G':Hp) (x1:Option V),σ=[some (.ref a),x1]/\Lo G0 G H ((PyData.list ds).depth - 1) (nlA (es.take i)) m G' H') ⟨G,none,rfl, .refl l0 sG hlen s1⟩ ?_ ?_ ?_⟩⟩
   ·rintro i σ H3 _ ⟨G',x1,rfl,lo⟩
    exact SqL.of (lo.same _ _ ((still lo).trans eG))
   ·rintro i x σ H3 hx ⟨G',x1,rfl,lo⟩
    exact⟨_,rfl,loop a ys es rfl da2 hdep2 hnl i x _ H3 hx ⟨G',x1,rfl,lo⟩ _ λH4 ⟨G4,lo4⟩=>⟨G4,_,rfl,lo4⟩⟩
   ·rintro σ H3 ⟨G',x1,rfl,lo⟩
    rw[da2.len,l40,hnl] at lo
    exact hN _ _ ⟨G',x1,rfl,lo,λa' e'=>by cases e';exact still lo⟩
 rintro σ' H2 ⟨G2,x1,rfl,lo,hsa⟩
 refine s_if (tyD d=="list") (λR kk=>⟨_,rfl,v,_,"list",_,rfl,lg_ty dv lo.lg0 lo.same,(pH K d).2.1,_,rfl,kk _ (Same.refl _)⟩) (λH3 s3 z=>?_) λH3 s3 z=>?_
 ·have dv0:=dv
  cases dv with
  |non=>cases z
  |bl b=>cases z
  |int i=>cases z
  |str x _ _=>cases z
  |tup e _=>cases z
  | @lst a xs ds e da hl=>
   obtain⟨kk,eG⟩:=l0.lst _ _ e
   have eG2:=(hsa a rfl).trans eG
   generalize xs++List.replicate kk kL=ys at eG eG2
   have e3:=s3 _ _ (lo.same _ _ eG2)
   have hyl:=lo.len a ys eG2
   have hnd:nlD (.list ds)=nlA ds+1:=rfl
   refine⟨_,rfl, .inl ⟨rfl,_,SqL.of e3⟩,a,ys,kL,rfl,rfl,e3,by rw[hs];omega,?_⟩
   refine q (upd G2 a (.lst (ys++[kL]))) _ ⟨lo.lg0.trans (qT eG2),lo.lg.trans (qT eG2),λb o hb=>?_,?_,λb o e1 e2=>?_,λb hb=>?_⟩
   ·by_cases y:b=a
    ·rw[y,aa] at hb ⊢;exact hb
    ·rw[af y] at hb ⊢;exact s3 _ _ (lo.same _ _ hb)
   ·have:=len_more eG2 lo.len
    exact this.mono (by rw[if_pos z];omega)
   ·have hba:b≠a:=λy=>by rw[y,eG] at e1;cases e1
    rw[af hba]
    exact s3 _ _ (lo.off b o e1 e2)
   ·have hba:b≠a:=λy=>by have:=hb _ (y▸dv0);omega
    rw[af hba]
    exact lo.deep b λd' hd'=>by have:=hb d' hd';omega
 ·refine q G2 H3 ⟨lo.lg0,lo.lg,lo.same.trans s3,lo.len.mono (by omega),λb o e1 e2=>s3 _ _ (lo.off b o e1 e2),λb hb=>lo.deep b λd' hd'=>by have:=hb d' hd';omega⟩
end
def filt (G:Hp):Hp:=λb=>match G b with
 |some (.lst xs)=>if xs.length<=100000 then some (.lst xs) else none
 |o=>o
theorem filt_in {G:Hp}:Same (filt G) G:=λb o e=>by
 unfold filt at e
 split at e
 ·rename_i xs h
  split at e
  ·rw[h];exact e
  ·cases e
 ·exact e
theorem filt_len {G:Hp}:LenB 100000 (filt G):=λb xs e=>by
 unfold filt at e
 split at e
 ·rename_i ys h
  split at e
  ·cases e;assumption
  ·cases e
 ·rename_i h
  exact absurd e (h xs)
theorem filt_lst {G:Hp}{a:Addr}{xs:List V}(e:G a=some (.lst xs))(h:xs.length<=100000):filt G a=some (.lst xs):=by
 unfold filt
 rw[e]
 exact if_pos h
theorem filt_tup {G:Hp}{a:Addr}{xs:List V}(e:G a=some (.tup xs)):filt G a=some (.tup xs):=by
 unfold filt
 rw[e]
mutual
theorem qW {G:Hp}:∀{v:V} {d:PyData},Dn G v d->Dn (filt G) v d
 |_,_, .non => .non
 |_,_, .bl b => .bl b
 |_,_, .int i => .int i
 |_,_, .str x a b => .str x a b
 |_,_, .lst e r l => .lst (filt_lst e l) (jt r) l
 |_,_, .tup e r => .tup (filt_tup e) (jt r)
theorem jt {G:Hp}:∀{vs:List V} {ds:List PyData},DnAll G vs ds->DnAll (filt G) vs ds
 |_,_, .nil => .nil
 |_,_, .cons a r => .cons (qW a) (jt r)
end
theorem long_new {H0 H:Hp}{v:V}{d:PyData}{n:Nat}{Q:VK}{E:XK}(s:Same H0 H)(h:Dn (dif H0 H) v d)(hd:d.depth<=n)(hn:nlD d<=900000)(q:∀H',Same H0 H'->Q .non H'):kM n [v] H Q E:=
 ⟨v, d, filt (dif H0 H), filt (dif H0 H), 100000, rfl, qW h, hd, Lg.refl _, filt_in.trans dif_same, filt_len, by omega, fun G' H' lo => q H' fun b o e => lo.off b o (by
  have:dif H0 H b=none:=bd (by rw[e];exact λz=>nomatch z)
  unfold filt
  rw[this]) (s b o e)⟩
def Sz (d:PyData)(n c:Nat):Prop:=d.depth<=n/\nlD d<=c
theorem Sz.mono {d:PyData}{n c n' c':Nat}(h:Sz d n c)(a:n<=n')(b:c<=c'):Sz d n' c':=⟨l10 h.1 a,l10 h.2 b⟩
theorem bh {s:Str}{n c:Nat}:Sz (.str s) n c:=⟨l14 _,l14 _⟩
theorem sz_int {i:Int}{n c:Nat}:Sz (.int i) n c:=⟨l14 _,l14 _⟩
theorem nlA_le {m:Nat}:∀{ds:List PyData},(∀d∈ds,nlD d<=m)->nlA ds<=ds.length * m
 | [],_=>by rw[nlA];exact l14 _
 |d::ds,h=>by
  have a:=h d l13
  have b:=nlA_le (ds:=ds) λx hx=>h x (l15 _ hx)
  rw[nlA,l8,l54]
  omega
theorem cX {α:Type}{f:α->PyData}{xs:List α}{n c k:Nat}(hl:xs.length<=k)(h:∀x∈xs,Sz (f x) n c):Sz (.list (xs.map f)) (n+1) (k * c+1):=by
 have h':∀d∈xs.map f,Sz d n c:=λd hd=>by
  obtain⟨x,hx,rfl⟩:=l32.mp hd
  exact h x hx
 refine⟨iD λd hd=>(h' d hd).1,?_⟩
 rw[nlD]
 have:=nlA_le λd hd=>(h' d hd).2
 rw[l6] at this
 have:=l53 c hl
 omega
theorem dq {a b:PyData}{n c1 c2:Nat}(h1:Sz a n c1)(h2:Sz b n c2):Sz (.tuple [a,b]) (n+1) (c1+c2):=by
 refine⟨gF λd hd=>?_,by rw[nlD,nlA,nlA,nlA];have:=h1.2;have:=h2.2;omega⟩
 simp only[l9,l37,or_false] at hd
 rcases hd with z |z <;> rw[z]
 ·exact h1.1
 ·exact h2.1
theorem hE {a b d:PyData}{n c1 c2 c3:Nat}(h1:Sz a n c1)(h2:Sz b n c2)(h3:Sz d n c3):Sz (.tuple [a,b,d]) (n+1) (c1+c2+c3):=by
 refine⟨gF λx hd=>?_,by rw[nlD,nlA,nlA,nlA,nlA];have:=h1.2;have:=h2.2;have:=h3.2;omega⟩
 simp only[l9,l37,or_false] at hd
 rcases hd with z |z |z <;> rw[z]
 ·exact h1.1
 ·exact h2.1
 ·exact h3.1
theorem sz_tup4 {a b d e:PyData}{n c1 c2 c3 c4:Nat}(h1:Sz a n c1)(h2:Sz b n c2)(h3:Sz d n c3)(h4:Sz e n c4):Sz (.tuple [a,b,d,e]) (n+1) (c1+c2+c3+c4):=by
 refine⟨gF λx hd=>?_,by rw[nlD,nlA,nlA,nlA,nlA,nlA];have:=h1.2;have:=h2.2;have:=h3.2;have:=h4.2;omega⟩
 simp only[l9,l37,or_false] at hd
 rcases hd with z |z |z |z <;> rw[z]
 ·exact h1.1
 ·exact h2.1
 ·exact h3.1
 ·exact h4.1
theorem sz_d1 (p:P1):Sz (d1 p) 1 0:=by
 cases p with
 |plain s=>exact dq (n:=0) (c1:=0) (c2:=0) bh bh
 |code s=>exact dq (n:=0) (c1:=0) (c2:=0) bh bh
 |link w n=>exact hE (n:=0) (c1:=0) (c2:=0) (c3:=0) bh bh bh
 |note n=>exact dq (n:=0) (c1:=0) (c2:=0) bh bh
theorem sz_dP (p:PC):Sz (dP p) 3 1:=by
 cases p with
 |one p=>exact(sz_d1 p).mono (by decide) (by decide)
 |strong ps=>exact(dq (n:=2) (c1:=0) (c2:=1) bh ((cX (f:=d1) (xs:=ps) (k:=ps.length) (n:=1) (c:=0) (l7 _) λx _=>sz_d1 x).mono (l7 _) (by rw[Nat.mul_zero];exact l7 _))).mono (l7 _) (by decide)
theorem qX {ps:List PC}(h:ps.length<=4):Sz (.list (ps.map dP)) 4 5:=cX h λx _=>sz_dP x
def cEn:Nat->Nat
 |0=>0
 |n+1=>6+2 * cEn n
theorem sz_dE:∀{n:Nat} {e:En n},GE n e->Sz (dE n e) (3+2 * n) (cEn n)
 |0,e,_=>nomatch e
 |n+1,e,h=>(hE (n:=4+2 * n) (c1:=0) (c2:=5) (c3:=2 * cEn n+1) bh ((qX h.1.2.1).mono (by omega) (l7 _)) ((cX h.2.1 λx hx=>sz_dE (h.2.2 x hx)).mono (by omega) (l7 _))).mono (by omega) (by show _<=6+2 * cEn n;omega)
theorem ni {cs:List (List PC)}(h:CCs cs):Sz (bF cs) 5 16:=cX (k:=3) (c:=5) h.1 λps hp=>qX (h.2 ps hp).1
theorem sz_dBF {β:Type}{g:β->PyData}{ok:β->Prop}{n c:Nat}(hn:15<=n)(k:∀b,ok b->Sz (g b) n c):∀{b:BkF β},GBF ok b->Sz (dBF g b) (n+2) (2 * c+800)
 | .heading _ _,h=>(hE (n:=4) (c1:=0) (c2:=0) (c3:=5) bh sz_int (qX h.2.2.1)).mono (by omega) (by omega)
 | .para _,h=>(dq (n:=4) (c1:=0) (c2:=5) bh (qX (SPs.c h).1)).mono (by omega) (by omega)
 | .lst _,h=>(dq (n:=16) (c1:=0) (c2:=2 * cEn 6+1) bh (cX (n:=15) h.1 λe he=>sz_dE (h.2 e he))).mono (by omega) (by show 0+757<=_;omega)
 | .table hd sd ls,h=>(sz_tup4 (n:=6) (c1:=0) (c2:=16) (c3:=1) (c4:=49) bh ((ni h.1).mono (by decide) (l7 _)) ((cX (n:=0) (c:=0) (k:=3) h.2.1 λ_ _=>bh).mono (by decide) (by decide)) (cX (n:=5) (c:=16) (k:=3) h.2.2.1 λl hl=>ni (h.2.2.2 l hl))).mono (by omega) (by omega)
 | .lit ls,h=>(dq (n:=1) (c1:=0) (c2:=1) bh ((cX (n:=0) (c:=0) (k:=3) h.1 λ_ _=>bh).mono (l7 _) (by decide))).mono (by omega) (by omega)
 | .quote bs,h=>(dq (n:=n+1) (c1:=0) (c2:=2 * c+1) bh (cX h.1 λb hb=>k b (h.2 b hb))).mono (by omega) (by omega)
 | .name _ _,_=>(hE (n:=0) (c1:=0) (c2:=0) (c3:=0) bh bh bh).mono (by omega) (by omega)
 | .note _ _,h=>(hE (n:=4) (c1:=0) (c2:=0) (c3:=5) bh bh (qX h.2.2.1)).mono (by omega) (by omega)
def cBn:Nat->Nat
 |0=>800
 |n+1=>2 * cBn n+800
theorem sz_dB:∀{n:Nat} {b:Bl n},GB n b->Sz (dB n b) (17+2 * n) (cBn n)
 |0,_,h=>(sz_dBF (n:=15) (c:=0) (l7 _) (λz=>nomatch z) h).mono (l7 _) (l7 _)
 |n+1,_,h=>(sz_dBF (n:=17+2 * n) (by omega) (λb z=>sz_dB z) h).mono (by omega) (l7 _)
theorem told_sz {b:Bl 4}(h:GB 4 b):(dB 4 b).depth<=25/\nlD (dB 4 b)<=900000:=((sz_dB h).mono (l7 _) (by decide))
end K11
namespace L2
open PySem
section
variable {prog:Program}{w:World}{A:Around}{E:Value->Shared->Prop}{s:Shared}
theorem qY {it t:Addr}{i:Nat}{us:Array Value}{x:Value}{Q:Value->Shared->Prop}(gi:s.heap.IsTupleIter it t i)
  (gt:s.heap.IsTuple t us)(hx:us[i]? = some x)
  (q:∀h',h'.IsTupleIter it t (i+1)->Heap.SameBut it s.heap h'->Q x { s with heap:=h' }):
  wpAny (model prog w) A (PySem.Builtin.SmallTypes.nextOf (.ref it)) Q E s:=by
 obtain⟨o,go,gc,gd⟩:=id gi
 obtain⟨ot,got,_,nt,gdt⟩:=gt
 unfold PySem.Builtin.SmallTypes.nextOf
 refine wpAny_bind (wpAny_callSpecial?_slot (name:=Str.ofString "__next__") gi.typeIs F.slot_tuple_iterator_next
  (wpAny_call_entry F.slot_tuple_iterator_next gi.typeIs F.entry_tuple_iterator_next ?_ (F.args_tuple_iterator_next_1 _)))
 show wpAny _ _ (PySem.field (.ref it) 0 >>= _) _ _ s
 refine wpAny_bind (wpAny_field go gd (x := .ref t) rfl ?_)
 show wpAny _ _ (ite ((Value.ref t==Value.none)=true) _ _) _ _ s
 rw[if_neg (show ¬ ((Value.ref t==Value.none)=true) from nofun)]
 show wpAny _ _ (PySem.field (.ref it) 1 >>= _) _ _ s
 refine wpAny_bind (wpAny_field go gd (x := .int i 0) rfl ?_)
 show wpAny _ _ (PySem.seqItems? (.ref t) >>= _) _ _ s
 refine wpAny_bind (wpAny_seqItems got gdt ?_)
 simp only[hx,l34]
 refine wpAny_bind (wpAny_setField go gd (by simp) (wpAny_pure ⟨x,rfl,wpAny_pure (q _ ?_ (Heap.SameBut.update ..))⟩))
 exact ⟨_,Heap.get?_update_self _ go (Obj.isFreed_of_fields (Obj.data_mapFields gd _)),(Obj.cls_mapFields ..).trans gc,by
  rw[Obj.data_mapFields gd];simp[rawInt]⟩
theorem nt_end {it t:Addr}{i:Nat}{us:Array Value}{Q:Value->Shared->Prop}(hh:A.handled=none)
  (gi:s.heap.IsTupleIter it t i)(gt:s.heap.IsTuple t us)(hx:us[i]? = none)
  (q:∀h' e,Heap.ExtBut it s.heap h'->(∃o,h'.get? e=some o/\o.cls = .type "StopIteration")->E (.ref e) { s with heap:=h' }):
  wpAny (model prog w) A (PySem.Builtin.SmallTypes.nextOf (.ref it)) Q E s:=by
 obtain⟨o,go,gc,gd⟩:=id gi
 obtain⟨ot,got,_,nt,gdt⟩:=gt
 unfold PySem.Builtin.SmallTypes.nextOf
 refine wpAny_bind (wpAny_callSpecial?_slot (name:=Str.ofString "__next__") gi.typeIs F.slot_tuple_iterator_next
  (wpAny_call_entry F.slot_tuple_iterator_next gi.typeIs F.entry_tuple_iterator_next ?_ (F.args_tuple_iterator_next_1 _)))
 show wpAny _ _ (PySem.field (.ref it) 0 >>= _) _ _ s
 refine wpAny_bind (wpAny_field go gd (x := .ref t) rfl ?_)
 show wpAny _ _ (ite ((Value.ref t==Value.none)=true) _ _) _ _ s
 rw[if_neg (show ¬ ((Value.ref t==Value.none)=true) from nofun)]
 show wpAny _ _ (PySem.field (.ref it) 1 >>= _) _ _ s
 refine wpAny_bind (wpAny_field go gd (x := .int i 0) rfl ?_)
 show wpAny _ _ (PySem.seqItems? (.ref t) >>= _) _ _ s
 refine wpAny_bind (wpAny_seqItems got gdt ?_)
 simp only[hx,l34]
 refine wpAny_bind (wpAny_rule (wpAny_bind (wpAny_setField go gd (by simp) ?_)))
 show wpAny _ _ (PySem.newExc (.type "StopIteration") [] >>= _) _ _ _
 refine wpAny_bind ?_;simp only[newTuple,newExc]
 refine wpAny_bind (wpAny_newObj_type ?_ (by size_fits))
 refine wpAny_bind (m:=PySem.firstArgMember _ _) (wpAny_of_eq (a:=Value.none) (by first |rfl |(simp only[firstArgMember];rfl)) ?_)
 refine wpAny_newObj_type ?_ (by size_fits);simp only[raiseNew]
 refine wpAny_bind (wpAny_handled ?_);first |rw[show A.in1.handled=none from hh] |rw[hh]
 refine wpAny_bind (wpAny_pure (wpAny_throw ?_))
 exact q _ _ (((Heap.SameBut.update ..).extBut.push _).push _) ⟨_,Heap.get?_push_size _ rfl,rfl⟩
structure ApartT (z TI TO i1 i2 l1 l2:Addr):Prop where
 nd:[z,TI,TO,i1,i2].Nodup
 li:∀l∈[l1,l2],l≠z/\l≠TO/\l≠i1/\l≠i2
theorem zt_item {z TI TO i1 i2 l1 l2:Addr}{k:Nat}{xs ys:Array Value}{x y a b:Value}{Q:Value->Shared->Prop}(D:ApartT z TI TO i1 i2 l1 l2)
  (gz:IsZip s.heap z TI TO .none)(gI:IsPair s.heap TI (.ref i1) (.ref i2))(gO:IsPair s.heap TO a b)
  (g1:s.heap.IsTupleIter i1 l1 k)(g2:s.heap.IsTupleIter i2 l2 k)(e1:s.heap.IsTuple l1 xs)(e2:s.heap.IsTuple l2 ys)(hx:xs[k]? = some x)(hy:ys[k]? = some y)
  (q:∀h',IsZip h' z TI TO (rawInt s.heap.objs.size)->IsPair h' TO x y->h'.IsTupleIter i1 l1 (k+1)->h'.IsTupleIter i2 l2 (k+1)->IsPair h' s.heap.objs.size x y->h'.objs.size=s.heap.objs.size+1 →
   (∀c o,c≠z->c≠TO->c≠i1->c≠i2->s.heap.get? c=some o->h'.get? c=some o)->Q (.ref s.heap.objs.size) { s with heap:=h' }):
  wpAny (model prog w) A (Builtin.«zip.__next__» ⟨[.ref z],[]⟩) (λfin s'=>∃v,fin = .done (.ret v)/\Q v s') E s:=by
 obtain⟨nd,li⟩:=D
 simp only[l46,l9,l37,or_false,not_or,l73,and_true,not_false_eq_true] at nd
 obtain⟨⟨zTI,zTO,z1,z2⟩,⟨ITO,I1,I2⟩,⟨O1,O2⟩,n12⟩:=nd
 obtain⟨l1z,l1O,l11,l12⟩:=li l1 (by simp)
 obtain⟨l2z,l2O,l21,l22⟩:=li l2 (by simp)
 show wpAny _ _ (PySem.field (.ref z) 2 >>= _) _ _ _
 refine wpAny_bind (wpAny_field gz rfl (x := .bool false) rfl ?_)
 show wpAny _ _ (PySem.field (.ref z) 3 >>= _) _ _ _
 refine wpAny_bind (wpAny_field gz rfl (x := .ref TI) rfl (wpAny_bind (wpAny_seqItems gI rfl ?_)))
 show wpAny _ _ (PySem.Builtin.SmallTypes.ownedTupleIsFree (.ref z) >>= _) _ _ _
 refine wpAny_bind ?_;unfold Builtin.SmallTypes.ownedTupleIsFree
 refine wpAny_bind (wpAny_field gz rfl (x := .none) rfl (wpAny_pure ?_));simp only[if_true]
 refine wpAny_bind (wpAny_rule (wpAny_bind (wpAny_field gz rfl (x := .ref TO) rfl (wpAny_bind (wpAny_setField_rec gz (by simp) λt1 gz1 ex1=>?_)))))
 replace gz1:IsZip t1 z TI TO .ellipsis:=gz1
 refine wpAny_bind ?_;simp only[List.forIn_cons,List.forIn_nil,List.zipIdx_cons,List.zipIdx_nil]
 refine wpAny_bind (wpAny_bind (wpAny_onRaise ?_));show wpAny _ _ (PySem.Builtin.SmallTypes.nextOf (.ref i1) >>= _) _ _ _
 refine wpAny_bind (qY (g1.extBut ex1.extBut (Ne.symm z1)) (e1.extBut ex1.extBut l1z) hx λt2 g1' ex2=>wpAny_pure ?_)
 have gO2:IsPair t2 TO a b:=ex2.extBut _ _ O1 (ex1.extBut _ _ (Ne.symm zTO) gO)
 refine wpAny_bind (wpAny_seqItems gO2 rfl (wpAny_bind (wpAny_updateSeq_pair gO2 λt3 gO3 ex3=>?_)))
 replace gO3:IsPair t3 TO x b:=gO3
 refine wpAny_bind (wpAny_letGo (wpAny_pure (wpAny_bind (wpAny_bind (wpAny_onRaise ?_)))));show wpAny _ _ (PySem.Builtin.SmallTypes.nextOf (.ref i2) >>= _) _ _ _
 have up3:∀d o,d≠z->d≠TO->d≠i1->s.heap.get? d=some o->t3.get? d=some o:=λd o d1 d2 d3 r=>ex3.extBut _ _ d2 (ex2.extBut _ _ d3 (ex1.extBut _ _ d1 r))
 refine wpAny_bind (qY (let ⟨o,r,r'⟩:=g2;⟨o,up3 _ o (Ne.symm z2) (Ne.symm O2) (Ne.symm n12) r,r'⟩) (let ⟨o,r,r'⟩:=e2;⟨o,up3 _ o l2z l2O l21 r,r'⟩) hy λt4 g2' ex4=>wpAny_pure ?_)
 have gO4:IsPair t4 TO x b:=ex4.extBut _ _ O2 gO3
 refine wpAny_bind (wpAny_seqItems gO4 rfl (wpAny_bind (wpAny_updateSeq_pair gO4 λt7 gO7 ex7=>?_)))
 replace gO7:IsPair t7 TO x y:=gO7
 refine wpAny_bind (wpAny_letGo (wpAny_pure (wpAny_pure (wpAny_bind (wpAny_seqItems gO7 rfl (wpAny_bind (wpAny_newTuple ?_)))))))
 have sz7:t7.objs.size=s.heap.objs.size:=by rw[ex7.1,ex4.1,ex3.1,ex2.1,ex1.1]
 have gz7:IsZip t7 z TI TO .ellipsis:=ex7.extBut _ _ zTO (ex4.extBut _ _ z2 (ex3.extBut _ _ zTO (ex2.extBut _ _ z1 gz1)))
 have up7:∀d o,d≠z->d≠TO->d≠i1->d≠i2->s.heap.get? d=some o->t7.get? d=some o:=λd o d1 d2 d3 d4 r=>ex7.extBut _ _ d2 (ex4.extBut _ _ d4 (up3 d o d1 d2 d3 r))
 have g17:t7.IsTupleIter i1 l1 (k+1):=((g1'.extBut ex3.extBut (Ne.symm O1)).extBut ex4.extBut n12).extBut ex7.extBut (Ne.symm O1)
 have g27:t7.IsTupleIter i2 l2 (k+1):=g2'.extBut ex7.extBut (Ne.symm O2)
 have ltz:z < t7.objs.size:=Heap.lt_size gz7
 show wpAny _ _ (PySem.Builtin.SmallTypes.ownedTupleHandOut (.ref z) (.ref t7.objs.size) >>= _) _ _ _
 refine wpAny_bind ?_;unfold Builtin.SmallTypes.ownedTupleHandOut
 have gz8:IsZip (t7.push { cls := .type "tuple",data := .seq #[x,y] }) z TI TO .ellipsis:=Heap.get?_push_of_some _ gz7
 refine wpAny_bind (wpAny_setField_rec gz8 (by simp) λt9 gz9 ex9=>?_)
 replace gz9:IsZip t9 z TI TO (rawInt t7.objs.size):=gz9
 refine wpAny_setField_rec gz9 (by simp) λt10 gz10 ex10=>?_
 replace gz10:IsZip t10 z TI TO (rawInt t7.objs.size):=gz10
 have up10:∀d o,d≠z->t7.get? d=some o->t10.get? d=some o:=λd o d1 r=>ex10.extBut _ _ d1 (ex9.extBut _ _ d1 (Heap.get?_push_of_some _ r))
 have gT10:IsPair t10 t7.objs.size x y:=ex10.extBut _ _ (l45 ltz) (ex9.extBut _ _ (l45 ltz) (Heap.get?_push_size _ rfl))
 have sz10:t10.objs.size=t7.objs.size+1:=by rw[ex10.1,ex9.1,Heap.size_push]
 rw[sz7] at gz10 gT10 sz10
 refine wpAny_pure ⟨_,rfl,?_⟩
 show Q (.ref t7.objs.size) _
 rw[sz7]
 exact q t10 gz10 (up10 _ _ (Ne.symm zTO) gO7) (let ⟨o,r,r'⟩:=g17;⟨o,up10 _ o (Ne.symm z1) r,r'⟩) (let ⟨o,r,r'⟩:=g27;⟨o,up10 _ o (Ne.symm z2) r,r'⟩) gT10 sz10 λd o d1 d2 d3 d4 r=>up10 d o d1 (up7 d o d1 d2 d3 d4 r)
theorem zt_end {z TI TO i1 i2 l1 l2:Addr}{k:Nat}{xs:Array Value}{Q:Fin->Shared->Prop}(hh:A.handled=none)(D:ApartT z TI TO i1 i2 l1 l2)
  (gz:IsZip s.heap z TI TO .none)(gI:IsPair s.heap TI (.ref i1) (.ref i2))
  (g1:s.heap.IsTupleIter i1 l1 k)(e1:s.heap.IsTuple l1 xs)(hx:xs[k]? = none)
  (q:∀h' e,(∀c o,c≠z->c≠i1->s.heap.get? c=some o->h'.get? c=some o)->(∃o,h'.get? e=some o/\o.cls = .type "StopIteration")->E (.ref e) { s with heap:=h' }):
  wpAny (model prog w) A (Builtin.«zip.__next__» ⟨[.ref z],[]⟩) Q E s:=by
 obtain⟨nd,li⟩:=D
 simp only[l46,l9,l37,or_false,not_or,l73,and_true,not_false_eq_true] at nd
 obtain⟨⟨zTI,zTO,z1,z2⟩,_⟩:=nd
 obtain⟨l1z,l1O,l11,l12⟩:=li l1 (by simp)
 show wpAny _ _ (PySem.field (.ref z) 2 >>= _) _ _ _
 refine wpAny_bind (wpAny_field gz rfl (x := .bool false) rfl ?_)
 show wpAny _ _ (PySem.field (.ref z) 3 >>= _) _ _ _
 refine wpAny_bind (wpAny_field gz rfl (x := .ref TI) rfl (wpAny_bind (wpAny_seqItems gI rfl ?_)))
 show wpAny _ _ (PySem.Builtin.SmallTypes.ownedTupleIsFree (.ref z) >>= _) _ _ _
 refine wpAny_bind ?_;unfold Builtin.SmallTypes.ownedTupleIsFree
 refine wpAny_bind (wpAny_field gz rfl (x := .none) rfl (wpAny_pure ?_));simp only[if_true]
 refine wpAny_bind (wpAny_rule (wpAny_bind (wpAny_field gz rfl (x := .ref TO) rfl (wpAny_bind (wpAny_setField_rec gz (by simp) λt1 gz1 ex1=>?_)))))
 replace gz1:IsZip t1 z TI TO .ellipsis:=gz1
 refine wpAny_bind ?_;simp only[List.forIn_cons,List.forIn_nil,List.zipIdx_cons,List.zipIdx_nil]
 refine wpAny_bind (wpAny_bind (wpAny_onRaise ?_));show wpAny _ _ (PySem.Builtin.SmallTypes.nextOf (.ref i1) >>= _) _ _ _
 refine wpAny_bind (nt_end hh (g1.extBut ex1.extBut (Ne.symm z1)) (e1.extBut ex1.extBut l1z) hx λt2 e ex2 he=>?_)
 obtain⟨oe,e2,ec⟩:=he
 have gz2:IsZip t2 z TI TO .ellipsis:=ex2 _ _ z1 gz1
 have nez:e≠z:=λr=>by subst r;rw[gz2] at e2;cases e2;simp at ec
 refine wpAny_setField_rec gz2 (by simp) λt3 _ ex3=>q t3 e (λd o d1 d2 r=>ex3.extBut _ _ d1 (ex2 _ _ d2 (ex1.extBut _ _ d1 r))) ⟨oe,ex3.extBut _ _ nez e2,ec⟩
theorem mi {z TI TO i1 i2 l1 l2:Addr}{k:Nat}{xs ys:Array Value}{x y a b:Value}{Q:Option Value->Shared->Prop}(D:ApartT z TI TO i1 i2 l1 l2)
  (gz:IsZip s.heap z TI TO .none)(gI:IsPair s.heap TI (.ref i1) (.ref i2))(gO:IsPair s.heap TO a b)
  (g1:s.heap.IsTupleIter i1 l1 k)(g2:s.heap.IsTupleIter i2 l2 k)(e1:s.heap.IsTuple l1 xs)(e2:s.heap.IsTuple l2 ys)(hx:xs[k]? = some x)(hy:ys[k]? = some y)
  (q:∀h',IsZip h' z TI TO (rawInt s.heap.objs.size)->IsPair h' TO x y->h'.IsTupleIter i1 l1 (k+1)->h'.IsTupleIter i2 l2 (k+1)->IsPair h' s.heap.objs.size x y->h'.objs.size=s.heap.objs.size+1 →
   (∀c o,c≠z->c≠TO->c≠i1->c≠i2->s.heap.get? c=some o->h'.get? c=some o)->Q (some (.ref s.heap.objs.size)) { s with heap:=h' }):
  wpAny (model prog w) A (pyNext (.ref z)) Q E s:=by
 have ty:s.TypeIs (.ref z) "zip":=⟨_,gz,rfl⟩
 unfold pyNext
 exact wpAny_bind (wpAny_attempt (wpAny_callSpecial?_slot (name:=Str.ofString "__next__") ty F.slot_zip_next
  (wpAny_call_entry F.slot_zip_next ty F.entry_zip_next (zt_item D gz gI gO g1 g2 e1 e2 hx hy λh' a1 a2 a3 a4 a5 a6 a7=>wpAny_pure (q h' a1 a2 a3 a4 a5 a6 a7)) (F.args_zip_next_1 _))))
theorem oC {z TI TO i1 i2 l1 l2:Addr}{k:Nat}{xs:Array Value}{Q:Option Value->Shared->Prop}(hh:A.handled=none)(D:ApartT z TI TO i1 i2 l1 l2)
  (gz:IsZip s.heap z TI TO .none)(gI:IsPair s.heap TI (.ref i1) (.ref i2))(g1:s.heap.IsTupleIter i1 l1 k)(e1:s.heap.IsTuple l1 xs)(hx:xs[k]? = none)
  (q:∀h',(∀c o,c≠z->c≠i1->s.heap.get? c=some o->h'.get? c=some o)->Q none { s with heap:=h' }):wpAny (model prog w) A (pyNext (.ref z)) Q E s:=by
 have ty:s.TypeIs (.ref z) "zip":=⟨_,gz,rfl⟩
 unfold pyNext
 refine wpAny_bind (wpAny_attempt (wpAny_callSpecial?_slot (name:=Str.ofString "__next__") ty F.slot_zip_next
  (wpAny_call_entry F.slot_zip_next ty F.entry_zip_next (zt_end hh D gz gI g1 e1 hx λh' e kp he=>?_) (F.args_zip_next_1 _))))
 obtain⟨o,ho,hc⟩:=he
 exact wpAny_bind (wpAny_isInstance (T:="StopIteration") (b:=true) ⟨o,ho,hc⟩ isSubtype_stop (wpAny_pure (q _ kp)))
end
abbrev pTit (h:Heap)(l:Addr):Heap:=h.push { cls := .type "tuple_iterator",data := .fields #[.ref l, .int 0 0] }
abbrev zTT (h:Heap)(l1 l2:Addr):Heap:=(pTit (pTit h l1) l2).push { cls := .type "tuple",data := .seq #[.ref h.objs.size, .ref (pTit h l1).objs.size] }
abbrev zOT (h:Heap)(l1 l2:Addr):Heap:=(zTT h l1 l2).push { cls := .type "tuple",data := .seq #[.none, .none] }
abbrev zZT (h:Heap)(l1 l2:Addr):Heap:=(zOT h l1 l2).push { cls := .type "zip",data := .fields #[.none, .bool false, .bool false, .ref (pTit (pTit h l1) l2).objs.size, .ref (zTT h l1 l2).objs.size] }
theorem new_zipT (l1 l2:Addr)(xs ys:Array Value):
  Meets (Builtin.«zip.__new__» ⟨[.type "zip", .ref l1, .ref l2], []⟩) (λ_ R s=>s.heap.IsTuple l1 xs/\s.heap.IsTuple l2 ys ∧
   R (.ok (.ret (.ref (zOT s.heap l1 l2).objs.size))) { s with heap:=zZT s.heap l1 l2 }):=
 .of_wp λprog w A R s h=>by
  obtain⟨hp,g,d,tk,os⟩:=s
  obtain⟨f1,f2,h⟩:=h
  have su:=sub_zip
  have L1:Heap.IsTuple (Shared.heap ⟨hp,g,d,tk,os⟩) l1 xs:=f1
  have L2:Heap.IsTuple (Shared.heap ⟨pTit hp l1,g,d,tk,os⟩) l2 ys:=Heap.IsTuple.push f2 _
  wp_walk using wpAny_pyIter_tuple L1,wpAny_pyIter_tuple L2
  exact⟨_,rfl,h⟩
section
variable {prog:Program}{w:World}{A:Around}{E:Value->Shared->Prop}{s:Shared}
theorem qZ {l1 l2:Addr}{xs ys:Array Value}{Q:Value->Shared->Prop}(f1:s.heap.IsTuple l1 xs)(f2:s.heap.IsTuple l2 ys)
  (q:∀h',IsZip h' (s.heap.objs.size+4) (s.heap.objs.size+2) (s.heap.objs.size+3) .none->IsPair h' (s.heap.objs.size+2) (.ref s.heap.objs.size) (.ref (s.heap.objs.size+1)) →
   IsPair h' (s.heap.objs.size+3) .none .none->h'.IsTupleIter s.heap.objs.size l1 0->h'.IsTupleIter (s.heap.objs.size+1) l2 0 →
   (∀c o,s.heap.get? c=some o->h'.get? c=some o)->Q (.ref (s.heap.objs.size+4)) { s with heap:=h' }):
  wpAny (model prog w) A (call (.type "zip") [.ref l1, .ref l2]) Q E s:=by
 refine callType_new F.called_zip (by decide) (F.typeCall_zip_2 _ _) (F.newCall_zip_2 _ _) (λobj=>F.args_object_init_3 obj _ _) F.entry_zip_new (new_zipT l1 l2 xs ys) ⟨f1,f2,?_⟩
 have y1:(pTit s.heap l1).objs.size=s.heap.objs.size+1:=Heap.size_push ..
 have y2:(pTit (pTit s.heap l1) l2).objs.size=s.heap.objs.size+2:=by rw[Heap.size_push,y1]
 have y3:(zTT s.heap l1 l2).objs.size=s.heap.objs.size+3:=by rw[Heap.size_push,y2]
 have y4:(zOT s.heap l1 l2).objs.size=s.heap.objs.size+4:=by rw[Heap.size_push,y3]
 have p5:(zZT s.heap l1 l2).get? (zOT s.heap l1 l2).objs.size=some _:=Heap.get?_push_size _ rfl
 have p4:(zZT s.heap l1 l2).get? (zTT s.heap l1 l2).objs.size=some _:=Heap.get?_push_of_some _ (Heap.get?_push_size _ rfl)
 have p3:(zZT s.heap l1 l2).get? (pTit (pTit s.heap l1) l2).objs.size=some _:=Heap.get?_push_of_some _ (Heap.get?_push_of_some _ (Heap.get?_push_size _ rfl))
 have p2:(zZT s.heap l1 l2).get? (pTit s.heap l1).objs.size=some _:=Heap.get?_push_of_some _ (Heap.get?_push_of_some _ (Heap.get?_push_of_some _ (Heap.get?_push_size _ rfl)))
 have p1:(zZT s.heap l1 l2).get? s.heap.objs.size=some _:=Heap.get?_push_of_some _ (Heap.get?_push_of_some _ (Heap.get?_push_of_some _ (Heap.get?_push_of_some _ (Heap.get?_push_size _ rfl))))
 show _/\_
 rw[y2,y3,y4] at p5
 rw[y3] at p4
 rw[y1,y2] at p3
 rw[y1] at p2
 rw[y4]
 exact ⟨⟨_,p5,rfl⟩,q _ p5 p3 p4 ⟨_,p1,rfl,rfl⟩ ⟨_,p2,rfl,rfl⟩ λc o x=>
  Heap.get?_push_of_some _ (Heap.get?_push_of_some _ (Heap.get?_push_of_some _ (Heap.get?_push_of_some _ (Heap.get?_push_of_some _ x))))⟩
end
open PySem.Spec PyProof.Rows
def Itzt (a b:Addr):It:=
 ⟨λi H=>∃xs ys x y,H a=some (.tup xs)/\H b=some (.tup ys)/\xs[i]? = some x/\ys[i]? = some y,
  λi H x H'=>∃T x1 y1,(∀xs,H a=some (.tup xs)->xs[i]? = some x1)/\(∀ys,H b=some (.tup ys)->ys[i]? = some y1)/\H T=none/\x = .ref T/\H'=upd H T (.tup [x1,y1]),
  λi H=>∃xs ys,H a=some (.tup xs)/\H b=some (.tup ys)/\xs.length<=i⟩
theorem q5 {P:Program}{w:World}{K:PySem.W.Frag}{elts:List Expr}{k:Nat}{pos:Pos}(a b z TI TO i1 i2:Addr)(nd:[z,TI,TO,i1,i2].Nodup):
  Turn P w K (.Tuple elts k pos) (Itzt a b) [z,TI,TO,i1,i2] z (λi h=>IsZip h z TI TO .none/\IsPair h TI (.ref i1) (.ref i2)/\(∃u v,IsPair h TO u v)/\h.IsTupleIter i1 a i/\h.IsTupleIter i2 b i) where
 mem:=by simp
 obj:=λi h st c hc=>by
  obtain⟨h1,h2,⟨u,v,h3⟩,⟨o4,h4,h4c,h4d⟩,⟨o5,h5,h5c,h5d⟩⟩:=st
  rcases l9.mp hc with rfl |hc
  ·exact⟨_,h1,λv z=>by cases z⟩
  rcases l9.mp hc with rfl |hc
  ·exact⟨_,h2,λv z=>by cases z⟩
  rcases l9.mp hc with rfl |hc
  ·exact⟨_,h3,λv z=>by cases z⟩
  rcases l9.mp hc with rfl |hc
  ·exact⟨o4,h4,λv z=>by rw[h4d] at z;cases z⟩
  ·have e:c=i2:=by simpa using hc
   subst e
   exact⟨o5,h5,λv z=>by rw[h5d] at z;cases z⟩
 keep:=λi h h' st kk=>by
  obtain⟨h1,h2,⟨u,v,h3⟩,⟨o4,h4,h4r⟩,⟨o5,h5,h5r⟩⟩:=st
  exact⟨kk z (by simp) _ h1,kk TI (by simp) _ h2,⟨u,v,kk TO (by simp) _ h3⟩,⟨o4,kk i1 (by simp) _ h4,h4r⟩,⟨o5,kk i2 (by simp) _ h5,h5r⟩⟩
 item:=by
  intro X hP hw hK hc i pins s σ H E I hf st hg
  subst hP hw hK
  obtain⟨xs,ys,x,y,hqx,hqy,hx,hy⟩:=hg
  obtain⟨its,rv,p,hz⟩:=I.tuple (.of hqx)
  obtain⟨its2,rv2,p2,hz2⟩:=I.tuple (.of hqy)
  obtain⟨u,hu,ru⟩:=rv.get hx
  obtain⟨v,hv,rw'⟩:=rv2.get hy
  obtain⟨h1,h2,⟨u0,v0,h3⟩,h4,h5⟩:=st
  obtain⟨o4,g4,c4,_⟩:=id h4
  obtain⟨o5,g5,c5,_⟩:=id h5
  have lne:∀{l:Addr} {us:List V},H l=some (.tup us)->l≠z/\l≠TO/\l≠i1/\l≠i2:=λ{l us} hL=>by
   have fr:∀c∈[z,TI,TO,i1,i2],l≠c:=λc hc e=>by rw[e,(hf _ hc).1] at hL;cases hL
   exact⟨fr z (by simp),fr TO (by simp),fr i1 (by simp),fr i2 (by simp)⟩
  have ap : ApartT z TI TO i1 i2 a b := ⟨nd,λl hl=>by
   rcases l9.mp hl with rfl |hl
   ·exact lne hqx
   ·rw[show l=b by simpa using hl];exact lne hqy⟩
  have nd':=nd
  simp only[l46,l9,l37,or_false,not_or,l73,and_true,not_false_eq_true] at nd'
  obtain⟨⟨zTI,zTO,z1,z2⟩,⟨ITO,I1,I2⟩,_⟩:=nd'
  refine mi ap h1 h2 h3 h4 h5 (show s.heap.IsTuple a its.toArray from p) (show s.heap.IsTuple b its2.toArray from p2) (x:=u) (y:=v) (by simpa using hu) (by simpa using hv) λh' k1 k2 k3 k4 k6 k7 k8=>⟨_,rfl,?_⟩
  have hlz:z < s.heap.objs.size:=Heap.lt_size h1
  have hlTO:TO < s.heap.objs.size:=Heap.lt_size h3
  have hlTI:TI < s.heap.objs.size:=Heap.lt_size h2
  have hl1:i1 < s.heap.objs.size:=Heap.lt_size g4
  have hl2:i2 < s.heap.objs.size:=Heap.lt_size g5
  refine wpAny_letOwnedTupleGo_zip k1 λh2' q1 sb=>?_
  have keep:∀c o,c≠z->h'.get? c=some o->h2'.get? c=some o:=λc o hc e=>(sb.2 c hc).trans e
  refine⟨.ref s.heap.objs.size,upd H s.heap.objs.size (.tup [x,y]),?_,rfl,⟨s.heap.objs.size,x,y,λys' hy'=>by rw[hqx] at hy';cases hy';exact hx,λys' hy'=>by rw[hqy] at hy';cases hy';exact hy,I.hok.fresh (l7 _),rfl,rfl⟩,⟨q1,?_,⟨u,v,keep _ _ (Ne.symm zTO) k2⟩,?_,?_⟩,?_⟩
  ·refine I.turnedL (t':=s.toks) (ch:=[z,TI,TO,i1,i2]) (λc ob hc q=>?_) hf (l7 _) ?_ I.tk
   ·simp only[l9,l37,or_false,not_or] at hc
    exact keep _ _ hc.1 (k8 c ob hc.1 hc.2.2.1 hc.2.2.2.1 hc.2.2.2.2 q)
   ·refine⟨by show 2<=sizeLine;rw[sizeLine_eq];decide,[u,v], .cons ru (.cons rw' .nil),?_⟩
    exact⟨_,keep _ _ (l45 hlz) k6,rfl,0,rfl⟩
  ·exact keep _ _ (Ne.symm zTI) (k8 TI _ (Ne.symm zTI) ITO I1 I2 h2)
  ·obtain⟨o,e,r⟩:=k3
   exact⟨o,keep _ _ (Ne.symm z1) e,r⟩
  ·obtain⟨o,e,r⟩:=k4
   exact⟨o,keep _ _ (Ne.symm z2) e,r⟩
  ·intro c hc
   have hlt:c < s.heap.objs.size:=by
    simp only[l9,l37,or_false] at hc
    rcases hc with rfl |rfl |rfl |rfl |rfl
    ·exact hlz
    ·exact hlTI
    ·exact hlTO
    ·exact hl1
    ·exact hl2
   rw[af (l29 hlt)]
   exact(hf c hc).1
 done:=by
  intro X hP hw hK hc i pins s σ H E I hf st hg
  subst hP hw hK
  obtain⟨xs,ys,hqx,hqy,hx⟩:=hg
  obtain⟨its,rv,p,hz⟩:=I.tuple (.of hqx)
  obtain⟨h1,h2,⟨u0,v0,h3⟩,h4,h5⟩:=st
  have lne:∀{l:Addr} {us:List V},H l=some (.tup us)->l≠z/\l≠TO/\l≠i1/\l≠i2:=λ{l us} hL=>by
   have fr:∀c∈[z,TI,TO,i1,i2],l≠c:=λc hc e=>by rw[e,(hf _ hc).1] at hL;cases hL
   exact⟨fr z (by simp),fr TO (by simp),fr i1 (by simp),fr i2 (by simp)⟩
  have ap : ApartT z TI TO i1 i2 a b := ⟨nd,λl hl=>by
   rcases l9.mp hl with rfl |hl
   ·exact lne hqx
   ·rw[show l=b by simpa using hl];exact lne hqy⟩
  have e1:=rv.length
  refine oC (I.ok.hd hc) ap h1 h2 h4 (show s.heap.IsTuple a its.toArray from p) (by simp;omega) λh' kp=>⟨rfl,I.turnedL0 (t':=s.toks) (ch:=[z,TI,TO,i1,i2]) (λc ob hc q=>?_) hf I.tk⟩
  simp only[l9,l37,or_false,not_or] at hc
  exact kp c ob hc.1 hc.2.2.2.1 q
 self:=λ_ _ _ _ _ st h=>wpAny_pyIter_zip st.1 h
section
variable {X:Cx}
def iZipA (K:PySem.W.Frag)(ta:TA):TI:=λσ H R=>ta σ H λvs H1=>∃a b,vs=[.ref a, .ref b] ∧
 (((∃xs,SqL K H1 a xs)/\(∃ys,SqL K H1 b ys)/\R (Itz K a b) H1) ∨ (∃xs,H1 a=some (.tup xs)/\(∃ys,H1 b=some (.tup ys))/\(xs.length<=sizeLine->R (Itzt a b) H1)))
theorem nd5 (n:Nat):[n+4,n+2,n+3,n,n+1].Nodup:=by
 simp only[l46,l9,l37,or_false,not_or,l73,and_true,not_false_eq_true]
 omega
theorem ge5 {n c:Nat}(hc:c∈[n+4,n+2,n+3,n,n+1]):n<=c:=by
 simp only[l9,l37,or_false] at hc
 omega
theorem pi_zipA {l l2:Expr}{ta:TA}{p pos:Pos}{elts:List Expr}{k:Nat}{pos':Pos}(hg:Gl X "zip")(hm:X.mg "zip"=none)(ha:PA X [l,l2] ta)(hs:starEach [l,l2] X.env=(false,eval l X.env)::starEach [l2] X.env)(hs2:(backTo pos (starEach [l2] X.env)).any (·.1)=false):
  PI X (.Tuple elts k pos') (.Call (.Name "zip" p) [l,l2] [] pos) (iZipA X.K ta):=by
 intro pins s σ H R I h
 refine Call_ (f6 I hg hm boot_zip (PyProof.Rows.callWith_type1 (thn (ha pos pins s σ H _ I h) λus s1 ⟨vs,H1,I1,r1,q1⟩=>?_) hs hs2))
 obtain⟨a,b,e,q1⟩:=q1
 subst e
 obtain⟨u,v,rfl,ru,rv⟩:=r1.two
 cases ru
 cases rv
 rcases q1 with ⟨⟨xs,hqa⟩,⟨ys,hqb⟩,q⟩ |⟨xs,hqa,⟨ys,hqb⟩,q⟩
 ·obtain⟨its,_,pl,_⟩:=I1.list hqa
  obtain⟨its2,_,pl2,_⟩:=I1.list hqb
  refine call_zip_2 pl.isList pl2.isList λh' g1 g2 g3 g4 g5 g6 g7=>?_
  refine wpAny_pyIter_zip g1 ?_
  have nd:=nd5 s1.heap.objs.size
  simp only[l46,l9,l37,or_false,not_or,l73,and_true,not_false_eq_true] at nd
  obtain⟨⟨zTI,zTO,z1,z2⟩,⟨ITO,I1',I2⟩,⟨O1,O2⟩,n12⟩:=nd
  exact ⟨s1.heap.objs.size+4,[s1.heap.objs.size+4,s1.heap.objs.size+2,s1.heap.objs.size+3,s1.heap.objs.size,s1.heap.objs.size+1],_,_,H1,rfl,I1.kept (t':=s1.toks) g7,
   my a b _ (s1.heap.objs.size+2) (s1.heap.objs.size+3) s1.heap.objs.size (s1.heap.objs.size+1) (Ne.symm zTI) (Ne.symm zTO) (Ne.symm z1) (Ne.symm z2) ITO I1' I2 O1 O2 n12,⟨g1,g2,⟨_,_,g3⟩,g4,g5⟩,
   λc hc=>I1.fpOk (ge5 hc) (I1.hok.fresh (ge5 hc)),q⟩
 ·obtain⟨its,_,pl,hzl⟩:=I1.tuple (.of hqa)
  have q:=q hzl
  obtain⟨its2,_,pl2,_⟩:=I1.tuple (.of hqb)
  refine qZ (show s1.heap.IsTuple a its.toArray from pl) (show s1.heap.IsTuple b its2.toArray from pl2) λh' g1 g2 g3 g4 g5 g7=>?_
  refine wpAny_pyIter_zip g1 ?_
  exact ⟨s1.heap.objs.size+4,[s1.heap.objs.size+4,s1.heap.objs.size+2,s1.heap.objs.size+3,s1.heap.objs.size,s1.heap.objs.size+1],_,_,H1,rfl,I1.kept (t':=s1.toks) g7,
   q5 a b _ (s1.heap.objs.size+2) (s1.heap.objs.size+3) s1.heap.objs.size (s1.heap.objs.size+1) (nd5 _),⟨g1,g2,⟨_,_,g3⟩,g4,g5⟩,
   λc hc=>I1.fpOk (ge5 hc) (I1.hok.fresh (ge5 hc)),q⟩
theorem xizA {l l2:Expr}{t:TA}{p pos:Pos}{elts:List Expr}{k:Nat}{pos':Pos}(hm:X.mg "zip"=none)(ha:XA X [l,l2] t)(hg:Gl X "zip":=by exact rfl) (h:b7 l=false:=by rfl) (h2:b7 l2=false:=by rfl):XI X (.Tuple elts k pos') (.Call (.Name "zip" p) [l,l2] [] pos) (iZipA X.K t):=
 ⟨pi_zipA hg hm ha.h (aW h) (by rw[aW h2];rfl)⟩
end
theorem forJ {J:It}{g:TG}{tb:TS}{D:Ends}{σ:St}{H:Hp}(n:Nat)(Pv:Nat->St->Hp->Prop)(h0:Pv 0 σ H)(hgo:∀i σ H,i < n->Pv i σ H->J.go i H)(hst:∀σ H,Pv n σ H->J.stop n H)
  (hs:∀i σ H x H',i < n->Pv i σ H->J.yld i H x H'->g x σ H' λσ2 H2=>tb { D with nx:=Pv (i+1),ct:=Pv (i+1),bk:=D.nx } σ2 H2) (hd:∀σ H,Pv n σ H->D.nx σ H):
  ∃W:Nat->Nat->St->Hp->Prop,(∃m,W 0 m σ H)/\∀i m σ H,W i m σ H →
   (J.stop i H/\D.nx σ H) ∨ (J.go i H/\∃N:St->Hp->Prop,(∀σ' H',N σ' H'->∃m',m' < m/\W (i+1) m' σ' H')/\∀x H',J.yld i H x H'->g x σ H' λσ2 H2=>tb { D with nx:=N,ct:=N,bk:=D.nx } σ2 H2):=by
 refine⟨λi m σ H=>m=n - i/\i<=n/\Pv i σ H,⟨n,by simp,l14 _,h0⟩,?_⟩
 rintro i m σ H ⟨rfl,hi,p⟩
 by_cases hlt:i < n
 ·exact .inr ⟨hgo i σ H hlt p,Pv (i+1),λσ' H' q=>⟨n - (i+1),by omega,rfl,hlt,q⟩,λx H' y=>hs i σ H x H' hlt p y⟩
 ·have e:i=n:=by omega
  subst e
  exact .inl ⟨hst σ H p,hd σ H p⟩
end L2
namespace K11
open PySem L2 Lm Lw PySem.Builtin.Int
section
abbrev q8:Stmt:=top 82
theorem scAlike:FnScope p15 p15 (ad q8):=mkS
def spAl (n:Nat):Sp:=λvs H Q _=>∃(v u:V) (d:PyData),vs=[v,u]/\Dn H v d/\Dn H u d/\d.depth<=n/\∀H',Same H H'->Q (.bl true) H'
theorem kit_B (K:PySem.W.Frag)(d:PyData):∃b,PySem.W.kitOne K (.type (tyD d)) (.type "bool")=some b:=by
 cases d <;> exact⟨_,by with_unfolding_all rfl⟩
theorem dn_scal {H:Hp}{v u:V}{d:PyData}(h:Dn H v d)(k:Dn H u d)(ht:(tyD d=="tuple"||tyD d=="list")=false):v=u/\scal v u=true:=by
 cases h with
 |non=>cases k;exact⟨rfl,rfl⟩
 |bl b=>cases k;exact⟨rfl,rfl⟩
 |int i=>cases k;exact⟨rfl,rfl⟩
 |str x _ _=>cases k;exact⟨rfl,rfl⟩
 |lst e _ _=>cases ht
 |tup e _=>cases ht
theorem nj {k n:Nat}{spI:Sp}(F:Fun K "_law_alike" "_law_alike" q8 f fd)(T:TxE mg)(D_l_alike:Def P w K mg base k "_law_alike" p15 spI)(hI:∀j,n=j+1->∀vs H Q E,spAl j vs H Q E->spI vs H Q E):FnOk P w K mg base CX0 (k+2) f fd p15 (spAl n):=by
 have sc:=scAlike
 refine F.oks sc λcdv A outer s H vs Q E hr h=>?_
 obtain⟨v,u,d,rfl,dv,du,hdn,q⟩:=h
 refine ao (xbc (xif (xor (bA (xcB bC T.n_isinstance rfl (xac (xv 1) (xac (xty (T:="tuple") T.n_tuple rfl) xa0)))) (xor1 (bA (xcB bC T.n_isinstance rfl (xac (xv 1) (xac (xty (T:="list") T.n_list rfl) xa0)))))).xt (xbc (xif (xor (aw jx (xcB bC T.n_isinstance rfl (xac (xv 0) (xac (xty (T:="list") T.n_list rfl) xa0))) (xcB bC T.n_isinstance rfl (xac (xv 1) (xac (xty (T:="list") T.n_list rfl) xa0))) (ai _)) (xor1 (hY (bA (xcB iJ T.n_isinstance rfl (xac (xv 0) (xac (xtup (xac (xty (T:="tuple") T.n_tuple rfl) (xac (xty (T:="list") T.n_list rfl) xa0))) xa0))))))).xt (xb1 (xret xbl)) xb0)
  (xb1 (xret (gm (xcmp aD (xcB bQ T.n_len PySem.boot_len (xac (xv 0) xa0)) (xcB bQ T.n_len PySem.boot_len (xac (xv 1) xa0)) (ai _)) (xone (xcB (mx rfl) T.n_all rfl (xac (xlc (cl:=[]) (own:=p36) (fr:=[]) (N':=p36) rfl (bw (xs:=[]) trivial trivial (by decide +kernel)) (by decide +kernel) (by decide +kernel) (by with_unfolding_all rfl)
  (xizA T.n_zip (xac (xv 0) (xac (xv 1) xa0)))
  (λ_ _ _ _=>xgtC (n:=2) rfl (xgsc (xgn (i:=0) (show (p36:List Str).Nodup by decide +kernel) rfl (Or.inl rfl)) (xgsc (xgn (i:=1) (show (p36:List Str).Nodup by decide +kernel) rfl (Or.inl rfl)) xgs0))) (λ_ _ _ _=>xq0) (λ_ _ _ _=>(xcd D_l_alike hr (xac (xv 0) (xac (xv 1) xa0))))) xa0))))))) xb0)
  (xb1 (xret (gm (xcmp aD (xcB bC T.n_isinstance rfl (xac (xv 0) (xac (xty (T:="bool") T.n_bool rfl) xa0))) (xcB bC T.n_isinstance rfl (xac (xv 1) (xac (xty (T:="bool") T.n_bool rfl) xa0))) (ai _)) (xone (xcmp aD (xv 0) (xv 1) (ai _))))))) ?_
 have hs:sizeLine=16777216:=sizeLine_eq
 rw[show aS p15 [v,u]=[some v,some u] from rfl]
 have kd:=pH K d
 refine s_if (tyD d=="tuple"||tyD d=="list") (t_or _ _ (t_isT (ev_v rfl) du kd.2.2) λ_ H1 s1=>t_isT (ev_v rfl) (du.same s1) kd.2.1) (λH1 s1 z=>?_) λH1 s1 z=>?_
 ·have dv1:=dv.same s1
  have du1:=du.same s1
  refine s_if false (t_or false false (λR kk=>⟨_,rfl,v,_,_,_,rfl,dv1.ty,kd.2.1,_,rfl,u,_,_,_,rfl,du1.ty,kd.2.1,rfl,_,rfl,by rw[decide_eq_true rfl];exact kk _ (Same.refl _)⟩) λ_ H2 s2=>t_not true λR kk=>⟨_,rfl,big (show (2:Nat)<=1000000 by decide),λp hp=>⟨v,_,p,["tuple","list"],_,rfl,lg_flt (dv1.same s2) (Lg.refl _) (ac hp _),aa,qU K d,_,rfl,by rw[z];exact kk _ (ac hp _)⟩⟩) (λH2 s2 z2=>nomatch z2) λH2 s2 _=>?_
  have tail:∀(J:It) (n1:Nat) (vs us:List V) (ds:List PyData),n1=ds.length->DnAll H2 vs ds->DnAll H2 us ds->(∀e∈ds,e.depth < d.depth)->(∀i H3,i < n1->Same H2 H3->J.go i H3)->(∀H3,Same H2 H3->J.stop n1 H3)->(∀i H3 x H4,Same H2 H3->J.yld i H3 x H4->∃T x1 y1,vs[i]? = some x1/\us[i]? = some y1/\H3 T=none/\x = .ref T/\H4=upd H3 T (.tup [x1,y1])) →
    ∀(i:Nat) H3 x H4,i < n1->Same H2 H3->J.yld i H3 x H4->∃T x1 y1,H3 T=none/\x = .ref T/\H4=upd H3 T (.tup [x1,y1])/\∀(C:V->Hp->Prop),(∀H5,Same H4 H5->C (.bl true) H5)->spI [x1,y1] H4 C E0:=by
   intro J n1 vs us ds hn da db hdep _ _ hy i H3 x H4 hi s3 y
   obtain⟨T,x1,y1,hx1,hy1,hT,rfl,rfl⟩:=hy i H3 x H4 s3 y
   refine⟨T,x1,y1,hT,rfl,rfl,λC hC=>?_⟩
   obtain⟨e,he,dx⟩:=da.getV hx1
   obtain⟨e',he',dy⟩:=db.getV hy1
   rw[he] at he'
   cases he'
   have hlt:=hdep e (l17 he)
   obtain⟨j,rfl⟩:∃j,n=j+1:=⟨n - 1,by omega⟩
   have s4:=s3.trans (ac hT (.tup [x1,y1]))
   exact hI j rfl _ _ _ _ ⟨x1,y1,e,rfl,dx.same s4,dy.same s4,by omega,hC⟩
  have hall:∀n1:Nat,((List.range n1).map λ_=>V.bl true)=((List.range n1).map λ_=>true).map V.bl:=λn1=>by rw[l28];rfl
  have htrue:∀n1:Nat,((List.range n1).map λ_=>true).all id=true:=λn1=>by simp
  have dv2:=dv1.same s2
  have du2:=du1.same s2
  cases dv2 with
  |non=>cases z
  |bl b=>cases z
  |int i=>cases z
  |str x _ _=>cases z
  | @lst a xs ds ea da hla=>
   cases du2 with
   | @lst b ys _ eb db hlb=>
    have h1:=da.len
    have h2:=db.len
    refine⟨_,rfl,a,xs,rfl, .inl (SqL.of ea),_,rfl,b,ys,rfl, .inl (SqL.of eb),rfl,_,rfl,?_⟩
    rw[decide_eq_true (by rw[h1,h2])]
    refine iteT ⟨_,rfl,_,rfl,a,b,rfl, .inl ⟨⟨_,SqL.of ea⟩,⟨_,SqL.of eb⟩,?_⟩⟩
    have tl:=tail (Itz K a b) xs.length xs ys ds h1 da db (λe he=>fu he) (λi H3 hi s3=>⟨xs,ys,_,_,SqL.of (s3 _ _ ea),SqL.of (s3 _ _ eb),List.getElem?_eq_getElem hi,List.getElem?_eq_getElem (by omega)⟩) (λH3 s3=>⟨xs,ys,SqL.of (s3 _ _ ea),SqL.of (s3 _ _ eb), .inl (l7 _)⟩) (λi H3 x H4 s3 ⟨T,u1,v1,e1,e2,hT,hx,hH⟩=>⟨T,u1,v1,e1 _ (SqL.of (s3 _ _ ea)),e2 _ (SqL.of (s3 _ _ eb)),hT,hx,hH⟩)
    refine lc_ixJ xs.length (λ_ => .bl true) (by rw[hs];omega) (λi H3 hi s3=>⟨xs,ys,_,_,SqL.of (s3 _ _ ea),SqL.of (s3 _ _ eb),List.getElem?_eq_getElem hi,List.getElem?_eq_getElem (by omega)⟩) (λH3 s3=>⟨xs,ys,SqL.of (s3 _ _ ea),SqL.of (s3 _ _ eb), .inl (l7 _)⟩) (λi H3 x H4 hi s3 y=>?_) λD H3 hD s3 eD=>⟨D,_,rfl,SqL.of (eD.trans (by rw[hall])),by rw[htrue];exact q H3 ((s1.trans s2).trans s3)⟩
    obtain⟨T,x1,y1,hT,rfl,rfl,hc⟩:=tl i H3 x H4 hi s3 y
    exact⟨ac hT _,λC N hC=>⟨T,_,rfl,SqT.of aa,rfl,_,_,rfl,_,_,rfl,rfl,((nfLe.refl _ _ _).set (by decide) _).set (by decide) _,iteT (B:=N (upd H3 T (.tup [x1,y1]))) ⟨_,rfl,_,rfl,hc C hC⟩⟩⟩
  | @tup a xs ds ea da=>
   cases du2 with
   | @tup b ys _ eb db=>
    have h1:=da.len
    have h2:=db.len
    refine⟨_,rfl,a,xs,rfl, .inr (SqT.of ea),_,rfl,b,ys,rfl, .inr (SqT.of eb),rfl,_,rfl,?_⟩
    rw[decide_eq_true (by rw[h1,h2])]
    refine iteT ⟨_,rfl,_,rfl,a,b,rfl, .inr ⟨xs,ea,⟨ys,eb⟩,λhzl=>?_⟩⟩
    have tl:=tail (Itzt a b) xs.length xs ys ds h1 da db (λe he=>fN he) (λi H3 hi s3=>⟨xs,ys,_,_,s3 _ _ ea,s3 _ _ eb,List.getElem?_eq_getElem hi,List.getElem?_eq_getElem (by omega)⟩) (λH3 s3=>⟨xs,ys,s3 _ _ ea,s3 _ _ eb,l7 _⟩) (λi H3 x H4 s3 ⟨T,u1,v1,e1,e2,hT,hx,hH⟩=>⟨T,u1,v1,e1 _ (s3 _ _ ea),e2 _ (s3 _ _ eb),hT,hx,hH⟩)
    refine lc_ixJ xs.length (λ_ => .bl true) hzl (λi H3 hi s3=>⟨xs,ys,_,_,s3 _ _ ea,s3 _ _ eb,List.getElem?_eq_getElem hi,List.getElem?_eq_getElem (by omega)⟩) (λH3 s3=>⟨xs,ys,s3 _ _ ea,s3 _ _ eb,l7 _⟩) (λi H3 x H4 hi s3 y=>?_) λD H3 hD s3 eD=>⟨D,_,rfl,SqL.of (eD.trans (by rw[hall])),by rw[htrue];exact q H3 ((s1.trans s2).trans s3)⟩
    obtain⟨T,x1,y1,hT,rfl,rfl,hc⟩:=tl i H3 x H4 hi s3 y
    exact⟨ac hT _,λC N hC=>⟨T,_,rfl,SqT.of aa,rfl,_,_,rfl,_,_,rfl,rfl,((nfLe.refl _ _ _).set (by decide) _).set (by decide) _,iteT (B:=N (upd H3 T (.tup [x1,y1]))) ⟨_,rfl,_,rfl,hc C hC⟩⟩⟩
 ·obtain⟨b,hb⟩:=kit_B K d
  obtain⟨e,hsc⟩:=dn_scal dv du z
  refine⟨_,rfl,v,_,"bool",b,rfl,(dv.same s1).ty,hb,_,rfl,u,_,"bool",b,rfl,(du.same s1).ty,hb,rfl,_,rfl,?_⟩
  rw[decide_eq_true rfl]
  refine iteT ⟨_,rfl,_,rfl,hsc,?_⟩
  rw[decide_eq_true e]
  exact q H1 s1
end
theorem rows_ok {b:Bl 4}(h:GB 4 b):RowsOk (cC aL 4 b):=(jr h).mono (by decide) (by decide)
theorem np {G:Hp}:∀{ls:List (List Nat)},(∀r∈ls,r.length<=100000/\Asc r)->DnAll G (ls.map vS) (ls.map λl => .str (S l))
 | [],_ => .nil
 |l::ls,h => .cons (c8 (h l l13).2 (h l l13).1).dn (np λr hr=>h r (l15 _ hr))
abbrev ik (ls:List (List Nat)):PyData := .list (ls.map λl => .str (S l))
theorem bW {G:Hp}{r:Addr}{ls:List (List Nat)}(e:G r=some (.lst (ls.map vS)))(h:RowsOk ls):Dn G (.ref r) (ik ls) := .lst e (np h.2) (by rw[l6];exact h.1)
theorem nq (ls:List (List Nat)):(ik ls).depth<=1:=iD λd hd=>by
 obtain⟨l,_,rfl⟩:=l32.mp hd
 exact l7 _
theorem dB_tup (b:Bl 4):tyD (dB 4 b)="tuple":=by
 cases (b:BkF (Bl 3)) <;> rfl
def HPr (G:Hp)(x:V):Prop:=∃(p:Addr) (f u:V) (d:PyData),x = .ref p/\G p=some (.tup [f,u])/\Dn G f d/\Dn G u d/\d.depth<=25
theorem HPr.same {G G':Hp}(s:Same G G'){x:V}(h:HPr G x):HPr G' x:=let ⟨p,f,u,d,e,e1,d1,d2,hd⟩:=h;⟨p,f,u,d,e,s _ _ e1,d1.same s,d2.same s,hd⟩
structure Gr (G H G' H':Hp):Prop where
 up:Same G G'
 into:Same G' H'
 non:∀b,G b=none->H b≠none->G' b=none
 old:∀b,H b≠none->H' b≠none
theorem Gr.trans {G H G1 H1 G2 H2:Hp}(a:Gr G H G1 H1)(b:Gr G1 H1 G2 H2):Gr G H G2 H2:=⟨a.up.trans b.up,b.into,λx h1 h2=>b.non x (a.non x h1 h2) (a.old x h2),λx h=>b.old x (a.old x h)⟩
def grow (G H H':Hp):Hp:=λb=>match H b with
 |some _=>G b
 |none=>H' b
theorem dQ {G H H':Hp}{b:Addr}(h:H b=none):grow G H H' b=H' b:=by unfold grow;rw[h]
theorem ju {G H H':Hp}{b:Addr}(h:H b≠none):grow G H H' b=G b:=by
 unfold grow
 cases e:H b with
 |none=>exact absurd e h
 |some o=>rfl
theorem q9 {G H H':Hp}{L:Addr}(s:Same G H)(gL:G L=none)(k:KeepX L H H')(hL:H' L≠none):Gr G H (grow G H H') H':=by
 refine⟨λb o e=>?_,λb o e=>?_,λb h1 h2=>(ju h2).trans h1,λb h=>?_⟩
 ·rw[ju (by rw[s _ _ e];exact λz=>nomatch z)];exact e
 ·by_cases hb:H b=none
  ·rw[dQ hb] at e;exact e
  ·rw[ju hb] at e
   exact k b o (λz=>by rw[z,gL] at e;cases e) (s _ _ e)
 ·by_cases hb:b=L
  ·rw[hb];exact hL
  ·cases e:H b with
   |none=>exact absurd e h
   |some o=>rw[k b o hb e];exact λz=>nomatch z
theorem gr_same {G H H' : Hp} (s : Same G H) (k : Same H H') : Gr G H G H' := ⟨Same.refl _,s.trans k,λ_ h _=>h,λb h=>by
 cases e:H b with
 |none=>exact absurd e h
 |some o=>rw[k b o e];exact λz=>nomatch z⟩
def AskP (c:Cb)(a L:Addr)(v:V)(N m:Nat)(H:Hp)(Q:VK):Prop:=∃(b:Bl 4) (hs:List V) (G:Hp),Same G H/\G L=none/\BAt c 4 G a b/\Dn G v (dB 4 b)/\GB 4 b/\H L=some (.lst hs)/\hs.length<=N ∧
 ∀xs G' H',Gr G H G' H'->KeepX L H H'->H' L=some (.lst (hs++xs))->xs.length<=m->(∀x∈xs,HPr G' x)->Q (.bl true) H'
def mj (c:Cb):Sp:=λvs H Q _=>∃(a L:Addr) (v:V),vs=[.ref a,v, .ref L]/\AskP c a L v 2000 1 H Q
section
variable {c:Cb}
abbrev rc:Stmt:=top 90
theorem scToldR:FnScope ["_law_block_here","_law_due","_law_held","_law_found"] p16 (ad rc):=mkS
theorem ok_toldR {k:Nat}(F:Fun K "_law_told_right" "_law_told_right" rc f fd)(T:TxE mg)(hM:MV P w K mg base k "told" (BAt c 4) (OkB 4) (gN (dB 4)))(D_l_longer:Def P w K mg base k "_law_longer" ["_law_told"] (kM 25))(D_l_alike:Def P w K mg base k "_law_alike" p15 (spAl 25)):FnOk P w K mg base CX0 (k+1) f fd p16 (mj c):=by
 have sc:=scToldR
 refine F.oks sc λcdv A outer s H vs Q E hr h=>?_
 obtain⟨a,L,v,rfl,b,hs,G,sG,gL,ha,dv,gb,eL,hhl,q⟩:=h
 refine ao (xbc (xset (i:=3) sc.nd rfl (Or.inl rfl) (xmV0 (k:=k) (xv 0) (hr.mono (by omega))))
  (xbc (b8 (xm PySem.F.plainAttrs_list PySem.F.slot_list_append PySem.F.type_list_append aP (xv 2) (xac (xtup (xac (xv 3) (xac (xv 1) xa0))) xa0)))
  (xbc (b8 (xcd D_l_longer hr (xac (xmV0 (k:=k) (xv 0) (hr.mono (by omega))) xa0)))
  (xb1 (xret (gm (xcB bC T.n_isinstance rfl (xac (xv 3) (xac (xty (T:="tuple") T.n_tuple rfl) xa0))) (xone (xcd D_l_alike hr (xac (xv 3) (xac (xv 1) xa0)))))))))) ?_
 have hsz:sizeLine=16777216:=sizeLine_eq
 rw[show aS ["_law_block_here","_law_due","_law_held","_law_found"] [V.ref a,v,V.ref L]=[some (V.ref a),some v,some (V.ref L),none] from rfl]
 obtain⟨hdep,hnl⟩:=told_sz gb
 have sGk:∀{H':Hp},KeepX L H H'->Same G H':=λk b o e=>k b o (λz=>by rw[z,gL] at e;cases e) (sG _ _ e)
 have hLn:H L≠none:=by rw[eL];exact λz=>nomatch z
 obtain⟨C1,dx1,fs1,sp1,e1,e2,V1,hsp1⟩:=hM b gb.ok H a (cJ 4 _ _ _ _ sG ha)
 refine⟨_,rfl,a,C1,dx1,fs1,_,sp1,rfl,e1,e2,V1,hsp1 _ _ λx H1 ⟨s1,d1⟩=>?_⟩
 dsimp only[av,sA,sB]
 have eL1:=s1 _ _ eL
 refine⟨_,rfl, .inl ⟨rfl,_,SqL.of eL1⟩,_,rfl,_,rfl,big (show (2:Nat)<=1000000 by decide),λp hp=>⟨L,hs, .ref p,rfl,rfl,ac hp _ _ _ eL1,by rw[hsz];omega,?_⟩⟩
 have hpL:p≠L:=λz=>by rw[z,eL1] at hp;cases hp
 have k2:KeepX L H (upd (upd H1 p (.tup [x,v])) L (.lst (hs++[.ref p]))):=λb o nb e=>(af nb).trans (ac hp _ _ _ (s1 b o e))
 have eL2:upd (upd H1 p (.tup [x,v])) L (.lst (hs++[.ref p])) L=some (.lst (hs++[.ref p])):=aa
 have ep2:upd (upd H1 p (.tup [x,v])) L (.lst (hs++[.ref p])) p=some (.tup [x,v]):=(af hpL).trans aa
 have d12:Same (dif H H1) (upd (upd H1 p (.tup [x,v])) L (.lst (hs++[.ref p]))):=λb o e=>by
  obtain⟨z1,z2⟩:=ci e
  have hbL:b≠L:=λy=>hLn (y▸z1)
  rw[af hbL]
  exact ac hp _ _ _ z2
 generalize upd (upd H1 p (.tup [x,v])) L (.lst (hs++[.ref p]))=H2 at k2 eL2 ep2 d12 ⊢
 obtain⟨C3,dx3,fs3,sp3,e3,e4,V3,hsp3⟩:=hM b gb.ok H2 a (cJ 4 _ _ _ _ (sGk k2) ha)
 refine⟨_,rfl,a,C3,dx3,fs3,_,sp3,rfl,e3,e4,V3,hsp3 _ _ λy H3 ⟨s3,d3⟩=>?_⟩
 dsimp only[tNil]
 refine long_new s3 d3 hdep hnl λH4 s4=>?_
 have k4:KeepX L H H4:=k2.trans (ag s4)
 have dx4:=d1.same (d12.trans s4)
 have dv4:=dv.same (sGk k4)
 have hk:PySem.W.kitOne K (.type (tyD (dB 4 b))) (.type "tuple")=some true:=by rw[(pH K (dB 4 b)).2.2,dB_tup b];rfl
 refine⟨_,rfl,x,_,"tuple",_,rfl,dx4.ty,hk,_,rfl,iteT ⟨_,rfl,_,rfl,x,v,_,rfl,dx4,dv4,hdep,λH5 s5=>?_⟩⟩
 have k5:=k4.trans (ag s5)
 have eL5:=s5 _ _ (s4 _ _ eL2)
 have gr:=q9 sG gL k5 (by rw[eL5];exact λz=>nomatch z)
 have d15:Same (dif H H1) (grow G H H5):=λb o e=>(dQ (ci e).1).trans (s5 _ _ (s4 _ _ (d12 b o e)))
 refine q [.ref p] _ H5 gr k5 eL5 (l7 _) λz hz=>?_
 rw[l20.mp hz]
 exact⟨p,x,v,_,rfl,(dQ (s1.free hp)).trans (s5 _ _ (s4 _ _ ep2)),d1.same d15,dv.same gr.up,hdep⟩
abbrev nu:Stmt:=top 91
theorem scWritR:FnScope ["_law_block_here","_law_due","_law_held","_law_rows_here","_law_found"] p16 (ad nu):=mkS
theorem ok_writR {k:Nat}{okL:Bl 4->Prop}(hokL:∀b,GB 4 b->okL b)(F:Fun K "_law_written_right" "_law_written_right" nu f fd)(T:TxE mg)(hM:MV P w K mg base k "written" (BAt c 4) (λb=>OkB 4 b/\RowsOk (cC aL 4 b)) (qe (cC aL 4)))(D_l_rows:Def P w K mg base k "_law_rows" ["_law_block_here"] (jn (dB 4) (cC aL 4) okL)):FnOk P w K mg base CX0 (k+1) f fd p16 (mj c):=by
 have sc:=scWritR
 refine F.oks sc λcdv A outer s H vs Q E hr h=>?_
 obtain⟨a,L,v,rfl,b,hs,G,sG,gL,ha,dv,gb,eL,hhl,q⟩:=h
 have hu:(A.deeper (PyProof.Rows.envOfC "_law_written_right" (ad nu) s.heap.objs.size f cdv)).units+64 < cLine:=by
  have:=hr.un
  omega
 refine ao (xbc (xset (i:=3) sc.nd rfl (Or.inl rfl) (xcd D_l_rows hr (xac (xv 1) xa0)))
  (xbc (xset (i:=4) sc.nd rfl (Or.inl rfl) (xmV0 (k:=k) (xv 0) (hr.mono (by omega))))
  (xbc (b8 (xm PySem.F.plainAttrs_list PySem.F.slot_list_append PySem.F.type_list_append aP (xv 2) (xac (xtup (xac (xv 4) (xac (xcTy aA T.n_list rfl (xac (xv 3) xa0)) xa0))) xa0)))
  (xbc (b8 (xm PySem.F.plainAttrs_list PySem.F.slot_list_append PySem.F.type_list_append aP (xmV0 (k:=k) (xv 0) (hr.mono (by omega))) (xac xstr xa0)))
  (xb1 (xret (gm (xcB bC T.n_isinstance rfl (xac (xv 4) (xac (xty (T:="list") T.n_list rfl) xa0))) (xone (xcmp (oX hu) (xv 4) (xv 3) (ai _)))))))))) ?_
 have hsz:sizeLine=16777216:=sizeLine_eq
 rw[show aS ["_law_block_here","_law_due","_law_held","_law_rows_here","_law_found"] [V.ref a,v,V.ref L]=[some (V.ref a),some v,some (V.ref L),none,none] from rfl]
 have hLn:H L≠none:=by rw[eL];exact λz=>nomatch z
 have sGk:∀{H':Hp},KeepX L H H'->Same G H':=λk b o e=>k b o (λz=>by rw[z,gL] at e;cases e) (sG _ _ e)
 have hro:=rows_ok gb
 generalize hrs:cC aL 4 b=rs at hro
 refine⟨_,rfl,v,b,rfl,dv.same sG,hokL b gb,by rw[hrs];exact hro,λr1 H1 s1 n1 e1=>?_⟩
 rw[hrs] at e1
 dsimp only[av,sA,sB]
 have hM2:∀(H2:Hp),KeepX L H H2->_:=λH2 k2=>hM b ⟨gb.ok,by rw[hrs];exact hro⟩ H2 a (cJ 4 _ _ _ _ (sGk k2) ha)
 obtain⟨C1,dx1,fs1,sp1,f1,f2,V1,hsp1⟩:=hM2 H1 (ag s1)
 refine⟨_,rfl,a,C1,dx1,fs1,_,sp1,rfl,f1,f2,V1,hsp1 _ _ λx H2 ⟨s2,r2,hx,n2,e2⟩=>?_⟩
 subst hx
 rw[hrs] at e2
 dsimp only[av,sA,sB]
 have eL2:=s2 _ _ (s1 _ _ eL)
 have e12:=s2 _ _ e1
 refine⟨_,rfl, .inl ⟨rfl,_,SqL.of eL2⟩,_,rfl,_,rfl,r1,_,rfl, .inl (SqL.of e12),λr3 n3=>⟨big (show (2:Nat)<=1000000 by decide),λp hp=>?_⟩⟩
 have s3:=ac n3 (.lst (rs.map vS))
 have e3:upd H2 r3 (.lst (rs.map vS)) r3=some (.lst (rs.map vS)):=aa
 generalize upd H2 r3 (.lst (rs.map vS))=H3 at s3 e3 hp ⊢
 have s4:=ac hp (.tup [.ref r2, .ref r3])
 have eL4:=s4 _ _ (s3 _ _ eL2)
 have ep4:upd H3 p (.tup [.ref r2, .ref r3]) p=some (.tup [.ref r2, .ref r3]):=aa
 have hpL:p≠L:=λz=>by rw[z,s3 _ _ eL2] at hp;cases hp
 generalize upd H3 p (.tup [.ref r2, .ref r3])=H4 at s4 eL4 ep4 ⊢
 refine⟨L,hs, .ref p,rfl,rfl,eL4,by rw[hsz];omega,?_⟩
 have s24:=s3.trans s4
 have s04:=(s1.trans s2).trans s24
 have k5:KeepX L H4 (upd H4 L (.lst (hs++[.ref p]))):=λb o nb e=>(af nb).trans e
 have eL5:upd H4 L (.lst (hs++[.ref p])) L=some (.lst (hs++[.ref p])):=aa
 generalize upd H4 L (.lst (hs++[.ref p]))=H5 at k5 eL5 ⊢
 have k05:=(ag (t:=L) s04).trans k5
 obtain⟨C6,dx6,fs6,sp6,g1,g2,V6,hsp6⟩:=hM2 H5 k05
 refine⟨_,rfl,a,C6,dx6,fs6,_,sp6,rfl,g1,g2,V6,hsp6 _ _ λy H6 ⟨s6,r6,hy,n6,e6⟩=>?_⟩
 subst hy
 rw[hrs] at e6
 refine⟨.inl ⟨rfl,_,SqL.of e6⟩,r6,_,_,rfl,rfl,e6,by rw[l6,hsz];have:=hro.1;omega,?_⟩
 have s7:Same H5 (upd H6 r6 (.lst (rs.map vS++[.str "more"]))):=au n6 s6
 generalize upd H6 r6 (.lst (rs.map vS++[.str "more"]))=H7 at s7 ⊢
 have hr1:r1≠L:=λz=>hLn (z▸n1)
 have hr2:r2≠L:=λz=>hLn (z▸s1.free n2)
 have hr3:r3≠L:=λz=>hLn (z▸(s1.trans s2).free n3)
 have k47:KeepX L H4 H7:=k5.trans (ag s7)
 have f27:H7 r2=some (.lst (rs.map vS)):=k47 _ _ hr2 (s24 _ _ e2)
 have f17:H7 r1=some (.lst (rs.map vS)):=k47 _ _ hr1 (s24 _ _ e12)
 have f37:H7 r3=some (.lst (rs.map vS)):=k47 _ _ hr3 (s4 _ _ e3)
 have fp7:H7 p=some (.tup [.ref r2, .ref r3]):=k47 _ _ hpL ep4
 have hd1:=nq rs
 refine⟨_,rfl, .ref r2,_,"list",true,rfl,(bW f27 hro).ty,(pH K (ik rs)).2.1,_,rfl,iteT ⟨_,rfl,_,rfl,ik rs,(bW f27 hro).den,(bW f17 hro).den,l10 hd1 (by decide),?_⟩⟩
 have k07:=k05.trans (ag s7)
 have gr:=q9 sG gL k07 (by rw[s7 _ _ eL5];exact λz=>nomatch z)
 refine q [.ref p] _ H7 gr k07 (s7 _ _ eL5) (l7 _) λz hz=>?_
 rw[l20.mp hz]
 exact⟨p,_,_,ik rs,rfl,(dQ ((s1.trans s2).free (s3.free hp))).trans fp7,bW ((dQ (s1.free n2)).trans f27) hro,bW ((dQ ((s1.trans s2).free n3)).trans f37) hro,l10 hd1 (by decide)⟩
end
def ml (c:Cb):Sp:=λvs H Q _=>∃(a L:Addr) (v:V) (n:Int),vs=[.ref a,v, .int n, .ref L]/\AskP c a L v 1000 4 H Q
section
variable {c:Cb}
abbrev rd:Stmt:=top 92
theorem scAsked:FnScope p25 p25 (ad rd):=mkS
theorem ok_asked {k:Nat}(F:Fun K "_law_asked" "_law_asked" rd f fd)(D_l_told_right:Def P w K mg base k "_law_told_right" p16 (mj c))(D_l_written_right:Def P w K mg base k "_law_written_right" p16 (mj c)):FnOk P w K mg base CX0 (k+1) f fd p25 (ml c):=by
 have sc:=scAsked
 refine F.oks sc λcdv A outer s H vs Q E hr h=>?_
 obtain⟨a,L,v,n,rfl,b,hs,G,sG,gL,ha,dv,gb,eL,hhl,q⟩:=h
 refine ao (xbc (xif (xand (aw aD (xop f7 (xv 2) xint) xint (ai _)) (fv (hY (bA (xcd D_l_told_right hr (xac (xv 0) (xac (xv 1) (xac (xv 3) xa0)))))))).xt (xb1 (xret xbl)) xb0)
  (xbc (xif (xand (aw hV (xop f7 (xv 2) xint) xint (ai _)) (fv (hY (bA (xcd D_l_written_right hr (xac (xv 0) (xac (xv 1) (xac (xv 3) xa0)))))))).xt (xb1 (xret xbl)) xb0)
  (xb1 (xret (gm (xcd D_l_told_right hr (xac (xv 0) (xac (xv 1) (xac (xv 3) xa0)))) (xone (xcd D_l_written_right hr (xac (xv 0) (xac (xv 1) (xac (xv 3) xa0)))))))))) ?_
 rw[show aS p25 [V.ref a,v,V.int n,V.ref L]=[some (V.ref a),some v,some (V.int n),some (V.ref L)] from rfl]
 generalize hσ:[some (V.ref a),some v,some (V.int n),some (V.ref L)]=σ0
 have hσ0:σ0[0]? = some (some (V.ref a)):=by rw[<- hσ];rfl
 have hσ1:σ0[1]? = some (some v):=by rw[<- hσ];rfl
 have hσ2:σ0[2]? = some (some (V.int n)):=by rw[<- hσ];rfl
 have hσ3:σ0[3]? = some (some (V.ref L)):=by rw[<- hσ];rfl
 clear hσ
 obtain⟨J,hJ⟩:∃J:Nat->Hp->Prop,J=λm H1=>∃xs G1,Gr G H G1 H1/\KeepX L H H1/\H1 L=some (.lst (hs++xs))/\xs.length<=m/\∀x∈xs,HPr G1 x:=⟨_,rfl⟩
 have st0:J 0 H:=by rw[hJ];exact⟨[],G,gr_same sG (Same.refl _),KeepX.refl,by rw[l31];exact eL,l7 _,λ_ z=>nomatch z⟩
 have mono:∀{m H1},J m H1->J (m+1) H1:=λh=>by
  rw[hJ] at h ⊢
  obtain⟨xs,G1,g1,k1,e1,hx,hp⟩:=h
  exact⟨xs,G1,g1,k1,e1,by omega,hp⟩
 have ask:∀(m:Nat) (H1:Hp),J m H1->m<=3->∀Q1:VK,(∀H2,J (m+1) H2->Q1 (.bl true) H2)->mj c [.ref a,v, .ref L] H1 Q1 E0:=by
  intro m H1 h hm Q1 hQ
  rw[hJ] at h hQ
  obtain⟨xs,G1,g1,k1,e1,hx,hp⟩:=h
  have hG1:G1 L=none:=g1.non L gL (by rw[eL];exact λz=>nomatch z)
  refine⟨a,L,v,rfl,b,hs++xs,G1,g1.into,hG1,cJ 4 _ _ _ _ g1.up ha,dv.same g1.up,gb,e1,by rw[l5];omega,λys G2 H2 g2 k2 e2 hy hp2=>hQ H2 ⟨xs++ys,G2,g1.trans g2,k1.trans k2,by rw[e2,l24],by rw[l5];omega,λx hx=>?_⟩⟩
  rcases l18.mp hx with z |z
  ·exact(hp x z).same g2.up
  ·exact hp2 x z
 refine bt (λσ' H'=>σ'=σ0/\J 1 H') (λN hN=>?_) ?_
 ·refine⟨_,hσ2,n,2,rfl,rfl,show (0:Int) < 2 by decide,rfl,_,rfl,ite2 (λ_=>?_) λ_=>?_⟩
  ·exact⟨_,hσ0,_,hσ1,_,hσ3,ask 0 H st0 (by decide) _ λH2 j2=>⟨true,rfl,ite2 (λz=>nomatch z) λ_=>hN _ _ ⟨rfl,j2⟩⟩⟩
  ·exact ite2 (λz=>nomatch z) λ_=>hN _ _ ⟨rfl,mono st0⟩
 rintro σ1 H1 ⟨e1,j1⟩
 rw[e1]
 refine bt (λσ' H'=>σ'=σ0/\J 2 H') (λN hN=>?_) ?_
 ·refine⟨_,hσ2,n,3,rfl,rfl,show (0:Int) < 3 by decide,_,_,rfl,rfl,_,rfl,ite2 (λ_=>?_) λ_=>?_⟩
  ·exact⟨_,hσ0,_,hσ1,_,hσ3,ask 1 H1 j1 (by decide) _ λH2 j2=>⟨true,rfl,ite2 (λz=>nomatch z) λ_=>hN _ _ ⟨rfl,j2⟩⟩⟩
  ·exact ite2 (λz=>nomatch z) λ_=>hN _ _ ⟨rfl,mono j1⟩
 rintro σ2 H2 ⟨e2,j2⟩
 rw[e2]
 refine⟨_,hσ0,_,hσ1,_,hσ3,ask 2 H2 j2 (by decide) _ λH3 j3=>⟨true,rfl,iteT ⟨_,hσ0,_,hσ1,_,hσ3,ask 3 H3 j3 (by decide) _ λH4 j4=>?_⟩⟩⟩
 rw[hJ] at j4
 obtain⟨xs,G4,g4,k4,e4,hx,hp⟩:=j4
 exact q xs G4 H4 g4 k4 e4 hx hp
end
abbrev nmLaw:List Str:=["_law_script","_law_tape","_law_names_here","_law_trees","_law_lists","_law_blocks_here","_law_held","_law_some_here","_law_block_here","_law_due","_law_found","_law_rows_here"]
structure Fz (c:Cb)(H:Hp)(t L W D r:Addr)(ka as:List Addr)(bs:List (Bl 4))(Gz Hc:Hp):Prop where
 into:Same Gz Hc
 base:Same H Gz
 nt:Gz t=none
 nL:Gz L=none
 nk:∀a∈ka,Gz a=none
 trees:Dn Gz (.ref r) (.list (bs.map (dB 4)))
 blk:Ls (BAt c 4 Gz) as bs
 eD:Gz D=some (.lst (as.map V.ref))
 eW:Gz W=some (.lst (ka.map V.ref))
theorem freeze {c:Cb}{H H3 H4 H5 H6 H7:Hp}{t L W D r:Addr}{ka as:List Addr}{bs:List (Bl 4)}(ht0:H t=none)(k03:KeepX t H H3)(ht3:H3 t≠none)(k34:KeepX t H3 H4)(ht4:H4 t≠none)(hW:H4 W=none)(s45:Same H4 H5)(eW6:H6 W=some (.lst (ka.map V.ref)))(k56:KeepX W H5 H6)(hD:H5 D=none)(hDk:D∉ka)(eD:H6 D=some (.lst (as.map V.ref)))
  (hnew:∀a∈ka,H5 a=none/\IsK H6 a)(hn:NewQ H5 (D::ka) H6 λG=>Ls (RB (BAt c 4) (onL ka H6) G) as bs)(hL:H6 L=none)(s67:Same H6 H7)(hWn:H5 W≠none)(dr:Dn (dif H3 H4) (.ref r) (.list (bs.map (dB 4)))):
  Fz c H t L W D r ka as bs (λb=>if b=t ∨ b=L ∨ b∈ka then none else H7 b) H7:=by
 have k46:∀b o,H4 b=some o->H6 b=some o:=λb o e=>k56 b o (λz=>by rw[z,hW] at e;cases e) (s45 _ _ e)
 have ht5:H5 t≠none:=λz=>ht4 (s45.free z)
 have ht6:H6 t≠none:=λz=>by
  cases e:H4 t with
  |none=>exact ht4 e
  |some o=>rw[k46 t o e] at z;cases z
 have out:∀b o,b≠t->b∉ka->H6 b=some o->(if b=t ∨ b=L ∨ b∈ka then none else H7 b)=some o:=λb o h1 h2 e=>by
  rw[if_neg]
  ·exact s67 _ _ e
  ·rintro(z |z |z)
   ·exact h1 z
   ·rw[z,hL] at e;cases e
   ·exact h2 z
 have nka:∀b,H5 b≠none->b∉ka:=λb h z=>h (hnew b z).1
 refine⟨λb o e=>?_,λb o e=>?_,if_pos (.inl rfl),if_pos (.inr (.inl rfl)),λa ha=>if_pos (.inr (.inr ha)),dr.same λb o e=>?_,?_,?_,?_⟩
 ·split at e
  ·cases e
  ·exact e
 ·have hbt:b≠t:=λz=>by rw[z,ht0] at e;cases e
  have e4:=(k03.trans k34) b o hbt e
  exact out b o hbt (nka b (by rw[s45 _ _ e4];exact λz=>nomatch z)) (k46 b o e4)
 ·obtain⟨z1,z2⟩:=ci e
  exact out b o (λz=>ht3 (z▸z1)) (nka b (by rw[s45 _ _ z2];exact λz=>nomatch z)) (k46 b o z2)
 ·obtain⟨G,a,b,d,k⟩:=hn
  refine k.mono λx z h=>cJ 4 _ _ _ _ (λy o e=>out y o (λz=>?_) (λz=>?_) (a _ _ e)) h
  ·rw[z,d t ht5] at e;cases e
  ·rw[b y (l15 _ z)] at e;cases e
 ·exact out D _ (λz=>ht5 (z▸hD)) hDk eD
 ·exact out W _ (λz=>ht4 (z▸hW)) (nka W hWn) eW6
theorem rows_nil:RowsOk (betw ([]:List (List (List Nat)))):=⟨l14 _,λ_ z=>nomatch z⟩
section
variable {c:Cb}
abbrev fO:Stmt:=top 93
theorem scLaw11:FnScope nmLaw ["_law_script"] (ad fO):=mkS
def re (K:PySem.W.Frag):Sp:=λvs H Q _=>∃(a:Addr) (ns:List Int),vs=[.ref a]/\SqL K H a (ns.map V.int)/\(∀n∈ns,intBits n<=1048576)/\∀H',Q (.bl true) H'
theorem ok_law11 {k kc:Nat}{c4:Int}{okL okR:Bl 4->Prop}(hokL:∀b,GB 4 b->okL b)(hokR:∀b,GB 4 b->okR b)(hc0:0<=c4)(hc4:c4<=100000000)(hkc:kc<=60000)(F:Fun K "law" "law" fO f fd)(T:TxE mg)(hk:3<=k)
  (D_l_draw:Def P w K mg base 1 "_law_draw" p8 (bG K))(D_l_names:Def P w K mg base k "_law_names" p12 (lZ K))(D_l_blocks:Def P w K mg base k "_law_blocks" p13 (dk K (dB 4) (GB 4) 4 c4))
  (D_l_block_of:Def P w K mg base k "_law_block_of" p6 (ng (dB 4) (BAt c 4) (GB 4) kc))(D_rows_between:Def P w K mg base k "rows_between" ["blocks"] (spRB (BAt c 4) (cC aL 4) okR))(D_l_all_rows:Def P w K mg base k "_law_all_rows" ["_law_blocks_here"] (oA (dB 4) (cC aL 4) okL))
  (D_l_asked:Def P w K mg base k "_law_asked" p25 (ml c))(D_l_alike:Def P w K mg base k "_law_alike" p15 (spAl 25)):FnOk P w K mg base CX0 (k+3) f fd ["_law_script"] (re K):=by
 have sc:=scLaw11
 refine F.oks sc λcdv A outer s H vs Q E hr h=>?_
 obtain⟨a,ns,rfl,hq,hb,q⟩:=h
 have hu:(A.deeper (PyProof.Rows.envOfC "law" (ad fO) s.heap.objs.size f cdv)).units+64 < cLine:=by
  have:=hr.un
  omega
 refine ao (xbc (xset (i:=1) sc.nd rfl (Or.inl rfl) (xlst (xac xint xa0)))
  (xbc (xset (i:=2) sc.nd rfl (Or.inl rfl) (xcd D_l_names hr (xac (xv 0) (xac (xv 1) xa0))))
  (xbc (xset (i:=3) sc.nd rfl (Or.inl rfl) (xcd D_l_blocks hr (xac (xv 0) (xac (xv 1) (xac (xv 2) (xac xint (xac (xop bp xint (xcd D_l_draw hr (xac (xv 0) (xac (xv 1) (xac xint xa0))))) xa0)))))))
  (xbc (xset (i:=4) sc.nd rfl (Or.inr rfl) (xlst xa0))
  (xbc (xslc (i:=5) sc.nd rfl rfl (cl:=[("_law_lists",s.heap.objs.size+1)]) (own:=["_law_told"]) (fr:=[4]) (N':=p6) rfl (bw (xs:=["_law_lists"]) ⟨rfl,trivial⟩ ⟨rfl,rfl, .inl rfl, .inl rfl,trivial⟩ (by decide +kernel)) (by decide +kernel) (by decide +kernel) (by with_unfolding_all rfl)
  (xil (xv 3))
  (λ_ _ _ _=>xgn (i:=0) (show (p6:List Str).Nodup by decide +kernel) rfl (Or.inl rfl)) (λ_ _ _ _=>xq0) (λ_ _ _ _=>(xcd D_l_block_of hr (xac (xv 0) (xac (xv 1) xa0)))))
  (xbc (xset (i:=6) sc.nd rfl (Or.inl rfl) (xlst xa0))
  (xbc (xif (xor (aw (op_neD hu) (xcd D_rows_between hr (xac (xv 5) xa0)) (xcd D_l_all_rows hr (xac (xv 3) xa0)) (ai _)) (xor1 (aw (op_ne0 hu) (xcd D_rows_between hr (xac (xlst xa0) xa0)) (xlst xa0) (ai _)))).xt (xb1 (xret xbl)) xb0)
  (xbc (xfor PassesOwn.never rfl (xil (xv 4)) (xgn (i:=7) sc.nd rfl (Or.inl rfl))
  (xb1 (b8 (xm PySem.F.plainAttrs_list PySem.F.slot_list_extend PySem.F.type_list_extend cZ (xv 7) (xac (xsl sl_list (xv 7) xo0 (xo1 xint)) xa0)))))
  (xbc (xfor PassesOwn.never rfl (xiz T.n_zip (xac (xv 5) (xac (xv 3) xa0))) (xgt rfl (xgsc (xgn (i:=8) sc.nd rfl (Or.inl rfl)) (xgsc (xgn (i:=9) sc.nd rfl (Or.inl rfl)) xgs0)))
  (xb1 (xif (hY (bA (xcd D_l_asked hr (xac (xv 8) (xac (xv 9) (xac (xcd D_l_draw hr (xac (xv 0) (xac (xv 1) (xac xint xa0)))) (xac (xv 6) xa0))))))) (xb1 (xret xbl)) xb0)))
  (xbc (xfor PassesOwn.never rfl (xil (xv 6)) (xgt rfl (xgsc (xgn (i:=10) sc.nd rfl (Or.inl rfl)) (xgsc (xgn (i:=9) sc.nd rfl (Or.inl rfl)) xgs0)))
  (xb1 (xif (hY (bA (xcd D_l_alike hr (xac (xv 10) (xac (xv 9) xa0))))) (xb1 (xret xbl)) xb0)))
  (xbc (xset (i:=11) sc.nd rfl (Or.inl rfl) (xcd D_rows_between hr (xac (xv 5) xa0)))
  (xbc (b8 (xm PySem.F.plainAttrs_list PySem.F.slot_list_append PySem.F.type_list_append aP (xcd D_rows_between hr (xac (xv 5) xa0)) (xac xstr xa0)))
  (xb1 (xret (gm (xcB bC T.n_isinstance rfl (xac (xv 11) (xac (xty (T:="list") T.n_list rfl) xa0))) (gm (xcmp (oX hu) (xv 11) (xcd D_l_all_rows hr (xac (xv 3) xa0)) (ai _)) (xone (xcmp (oX hu) (xcd D_rows_between hr (xac (xv 5) xa0)) (xv 11) (ai _))))))))))))))))))) ?_
 have hs:sizeLine=16777216:=sizeLine_eq
 rw[show aS nmLaw [V.ref a]=[some (V.ref a),none,none,none,none,none,none,none,none,none,none,none] from rfl]
 refine bJ λV1 eV1=>?_
 refine⟨big (show (1:Nat)<=1000000 by decide),λt ht=>?_⟩
 dsimp only[av,sA,sB]
 refine eV1 _ _ _ ?_
 have s1:=ac ht (.lst [.int 0])
 have tp1:Tp t 0 (upd H t (.lst [.int 0])):=⟨0,aa,by decide,by decide⟩
 have scr:∀{H':Hp},Same H H'->Scr K t ns a H':=λsH=>⟨λH'' k'=>Same.seq (λb o e=>k' b o (λz=>by rw[z,ht] at e;cases e) (sH b o e)) hq,hb⟩
 generalize upd H t (.lst [.int 0])=H1 at s1 tp1 ⊢
 refine bJ λV2 eV2=>?_
 refine⟨_,rfl,_,rfl,a,t,ns,0,rfl,scr s1,tp1,by decide,λnm ls H2 k2 n2 e2 hl hnm tp2=>?_⟩
 dsimp only[av,sA,sB]
 refine eV2 _ _ _ ?_
 have k02:KeepX t H H2:=(ag s1).trans k2
 have sk:∀{H':Hp},KeepX t H H'->Same H H':=λkk b o e=>kk b o (λz=>by rw[z,ht] at e;cases e) e
 refine bJ λV3 eV3=>?_
 refine⟨_,rfl,_,rfl,_,rfl,_,rfl,_,rfl,a,t,ns,3,_,rfl,scr (sk k02),tp2,by decide,by decide,λi H3 hi0 hi3 k3 tp3=>⟨_,_,rfl,rfl,?_⟩⟩
 obtain⟨mn,hmn⟩:∃mn:Nat,(1+i:Int)=(mn:Int):=⟨(1+i).toNat,by omega⟩
 dsimp only[tNil]
 rw[hmn]
 have hmn1:mn<=3:=by omega
 have hcm:c4 * mn<=100000000 * 3:=l70 (Int.mul_le_mul_of_nonneg_right hc4 (by omega)) (by omega)
 have hcm0:0<=c4 * mn:=l71 hc0 (by omega)
 have k03:KeepX t H H3:=k02.trans k3
 have hnmt:nm≠t:=λz=>tp1.ne (z▸n2)
 refine⟨a,t,nm,ns,ls,_,mn,rfl,⟨scr (sk k03),tp3,⟨k3 _ _ hnmt e2,hnmt,hl,hnm⟩,by decide⟩,by omega,hmn1,λr bs H4 k4 tp4 hbl hok d4=>?_⟩
 dsimp only[av,sA,sB]
 refine eV3 _ _ _ ?_
 have tp4:=tp4.le (v:=400000000) (by omega)
 have hbl3:bs.length<=3:=by omega
 refine bJ λV4 eV4=>?_
 refine⟨big (show (0:Nat)<=1000000 by decide),λW hW=>?_⟩
 dsimp only[av,sA,sB]
 refine eV4 _ _ _ ?_
 have s5:=ac hW (.lst [])
 have eW5:upd H4 W (.lst []) W=some (.lst []):=aa
 generalize upd H4 W (.lst [])=H5 at s5 eW5 ⊢
 have d4':=d4.same dif_same
 obtain⟨r',xs,hrr,er,da⟩:=bg d4'
 cases hrr
 have hlen:xs.length=bs.length:=by rw[da.len,l6]
 have hrW:r≠W:=λz=>by rw[z,hW] at er;cases er
 have hWn5:H5 W≠none:=by rw[eW5];exact λz=>nomatch z
 refine bJ λV5 eV5=>?_
 refine⟨_,rfl,r,rfl,⟨_,SqL.of (s5 _ _ er)⟩,?_⟩
 refine gY (RB (BAt c 4)) (qO (cJ 4)) bs kc eW5 (s5 _ _ er) hrW hlen (by omega) ?_ ?_
 ·intro j x b hx hbj H6 ks6 k6 eW6 hk6 C N hC
  obtain⟨d,hdi,dx0⟩:=da.getV hx
  rw[List.getElem?_map,hbj] at hdi
  cases hdi
  have hjl:=(List.getElem?_eq_some_iff.mp hbj).1
  have hki:kc * j<=kc * 2:=l72 _ (by omega)
  have so:Same H4 (offX H6 W):=λy o e=>by
   have hyW:y≠W:=λz=>by rw[z,hW] at e;cases e
   exact(if_neg hyW).trans (k6 y o hyW (s5 _ _ e))
  exact⟨(nfLe.refl _ _ _).set (by decide) _,iteT (B:=N H6) ⟨_,rfl,_,rfl,_,b,W,ks6,rfl,dx0.same so,hok b (l17 hbj),eW6,by rw[l23] at hk6;omega,λa ka H7 eW7 hka got=>hC a ka H7 eW7 hka got⟩⟩
 intro D ka H6 as hD eW6 hka hDk eD k56 hnew hn
 rw[l55] at eW6
 dsimp only[av,sA,sB]
 refine eV5 _ _ _ ?_
 have hkal:ka.length<=200000:=by
  have:kc * bs.length<=kc * 3:=l72 _ hbl3
  omega
 refine bJ λV6 eV6=>?_
 refine⟨big (show (0:Nat)<=1000000 by decide),λL hL=>?_⟩
 dsimp only[av,sA,sB]
 refine eV6 _ _ _ ?_
 have s7:=ac hL (.lst [])
 have eL7:upd H6 L (.lst []) L=some (.lst []):=aa
 generalize upd H6 L (.lst [])=H7 at s7 eL7 ⊢
 have fz:=freeze ht k03 tp3.ne k4 tp4.ne hW s5 eW6 k56 hD hDk eD hnew hn hL s7 hWn5 d4
 have tp7:Tp t 400000000 H7:=by
  obtain⟨m,e,h0,h1⟩:=tp4
  refine⟨m,s7 _ _ (k56 _ _ (λz=>?_) (s5 _ _ e)),h0,h1⟩
  rw[z,hW] at e;cases e
 have hK7:∀x∈ka,∃xs:List V,H7 x=some (.lst xs)/\xs.length<=100000:=λx hx=>by
  obtain⟨ys,e,hy⟩:=(hnew x hx).2
  exact⟨ys,s7 _ _ e,hy⟩
 have hLka:L∉ka:=λz=>by
  obtain⟨ys,e,_⟩:=(hnew L z).2
  rw[hL] at e;cases e
 have htka:t∉ka:=λz=>by
  have:=(hnew t z).1
  exact tp4.ne (s5.free this)
 have htL:t≠L:=λz=>by
  obtain⟨m,e,_⟩:=tp7
  rw[z,eL7] at e;cases e
 clear hn k56 hnew d4 da er d4' eD eW6
 generalize (λb=>if b=t ∨ b=L ∨ b∈ka then none else H7 b)=Gz at fz
 have hro:=all_ok hbl3 hok
 generalize hrs:betw (bs.map (cC aL 4))=rs at hro
 have hok1:∀b∈bs,okL b:=λb hb=>hokL b (hok b hb)
 have hok2:∀b∈bs,okR b:=λb hb=>hokR b (hok b hb)
 have dep:(ik rs).depth<=6:=l10 (nq rs) (by decide)
 have rb:∀{Hc:Hp} {σ:St} {Q1:VK},σ[5]? = some (some (V.ref D))->Same Gz Hc->(∀r1 H',Same Hc H'->Hc r1=none->H' r1=some (.lst (rs.map vS))->Q1 (.ref r1) H')->cG (spRB (BAt c 4) (cC aL 4) okR) [] E0 (aE (tVar 5) tNil) σ Hc Q1:=λh5 sG hQ=>⟨_,h5,D,bs,rfl,⟨as,sG _ _ fz.eD,fz.blk.mono λx z h=>cJ 4 _ _ _ _ sG h⟩,by omega,hok2,by rw[hrs];exact hro,λr1 H' s' n' e'=>hQ r1 H' s' n' (by rw[<- hrs];exact e')⟩
 have ra:∀{Hc:Hp} {σ:St} {Q1:VK},σ[3]? = some (some (V.ref r))->Same Gz Hc->(∀r1 H',Same Hc H'->Hc r1=none->H' r1=some (.lst (rs.map vS))->Q1 (.ref r1) H')->cG (oA (dB 4) (cC aL 4) okL) [] E0 (aE (tVar 3) tNil) σ Hc Q1:=λh3 sG hQ=>⟨_,h3, .ref r,bs,rfl,fz.trees.same sG,by omega,hok1,by rw[hrs];exact hro,λr1 H' s' n' e'=>hQ r1 H' s' n' (by rw[<- hrs];exact e')⟩
 refine bJ λV7 eV7=>?_
 refine s_no1 (t_or false false (λR kk=>rb rfl fz.into λr1 H8 s8 n8 e8=>ra rfl (fz.into.trans s8) λr2 H9 s9 n9 e9=>⟨ik rs,(bW (s9 _ _ e8) hro).den,(bW e9 hro).den,dep,_,rfl,kk H9 (s8.trans s9)⟩) λ_ H8 s8 R kk=>⟨big (show (0:Nat)<=1000000 by decide),λp hp=>⟨p,[],rfl,⟨[],aa,trivial⟩,l14 _,(λ_ z=>nomatch z),rows_nil,λr3 H9 s9 n9 e9=>⟨big (show (0:Nat)<=1000000 by decide),λp2 hp2=>⟨r3,p2,[],rfl,rfl,SqL.of (ac hp2 _ _ _ e9),SqL.of aa,false,rfl,kk _ (((ac hp _).trans s9).trans (ac hp2 _))⟩⟩⟩⟩) λH8 s8=>?_
 refine eV7 _ _ _ ?_
 have sz8:=fz.into.trans s8
 have tp8:=tp7.same s8
 have eL8:=s8 _ _ eL7
 have hK8:∀x∈ka,∃xs:List V,H8 x=some (.lst xs)/\xs.length<=100000:=λx hx=>let ⟨ys,e,h⟩:=hK7 x hx;⟨ys,s8 _ _ e,h⟩
 clear hK7 tp7 eL7 s8 s7
 refine bt (λσ' H'=>∃x7,σ'=[some (V.ref a),some (V.ref t),some (V.ref nm),some (V.ref r),some (V.ref W),some (V.ref D),some (V.ref L),x7,none,none,none,none]/\Same Gz H'/\Tp t 400000000 H'/\H' L=some (.lst [])) (λN hN=>?_) ?_
 ·refine⟨_,rfl,W,rfl,⟨_,SqL.of (sz8 _ _ fz.eW)⟩,?_⟩
  refine bN (xs:=ka.map V.ref) (λi σ H'=>∃x7,σ=[some (V.ref a),some (V.ref t),some (V.ref nm),some (V.ref r),some (V.ref W),some (V.ref D),some (V.ref L),x7,none,none,none,none]/\Same Gz H'/\Tp t 400000000 H'/\H' L=some (.lst [])/\∀x∈ka,∃xs:List V,H' x=some (.lst xs)/\xs.length<=100000+i) ⟨none,rfl,sz8,tp8,eL8,hK8⟩ ?_ ?_ ?_
  ·rintro i σ H' _ ⟨x7,rfl,sz,_⟩
   exact SqL.of (sz _ _ fz.eW)
  ·rintro i x σ H' hx ⟨x7,rfl,sz,tp,eL,hK⟩
   rw[List.getElem?_map] at hx
   obtain⟨l,hl,hxl⟩:=l52.mp hx
   cases hxl
   have hlk:=l17 hl
   have hil:=(List.getElem?_eq_some_iff.mp hl).1
   obtain⟨ys,ey,hy⟩:=hK l hlk
   dsimp only[av,sA,sB]
   refine⟨_,rfl, .inl ⟨rfl,_,SqL.of ey⟩,_,rfl,1,rfl,l,ys,rfl,SqL.of ey,λp hp=>?_⟩
   have hpl:p≠l:=λz=>by rw[z,ey] at hp;cases hp
   have hcut:(cutV ys none (some 1)).length<=1:=by
    unfold cutV
    refine l10 (List.length_take_le _ _) ?_
    rw[show HT.sIx ys.length ys.length (some 1)=min 1 ys.length from HT.sIx_nat _ _ 1]
    omega
   refine⟨l,p,ys,_,rfl,rfl,(af (Ne.symm hpl)).trans ey,aa,by rw[hs];omega,⟨_,rfl,?_,?_,?_,?_⟩⟩
   ·intro b o e
    rw[af (λz=>by rw[z,fz.nk l hlk] at e;cases e)]
    exact ac hp _ _ _ (sz _ _ e)
   ·obtain⟨m,e,h0,h1⟩:=tp
    exact⟨m,(af λz:t=l=>htka (z▸hlk)).trans (ac hp _ _ _ e),h0,h1⟩
   ·exact(af λz:L=l=>hLka (z▸hlk)).trans (ac hp _ _ _ eL)
   ·intro y hyk
    by_cases hyl:y=l
    ·rw[hyl]
     exact⟨_,aa,by rw[l5];omega⟩
    ·obtain⟨zs,e,h⟩:=hK y hyk
     exact⟨zs,(af hyl).trans (ac hp _ _ _ e),by omega⟩
  ·rintro σ H' ⟨x7,rfl,sz,tp,eL,hK⟩
   exact hN _ _ ⟨x7,rfl,sz,tp,eL⟩
 rintro _ H9 ⟨x7,rfl,sz9,tp9,eL9⟩
 clear hK8 tp8 eL8 sz8 hLka htka
 obtain⟨r',xs,hrr,er,da⟩:=bg fz.trees
 cases hrr
 have hxl:xs.length=bs.length:=by rw[da.len,l6]
 have hal:=fz.blk.len
 refine bt (λσ' H'=>∃x7 x8 x9 G hs,σ'=[some (V.ref a),some (V.ref t),some (V.ref nm),some (V.ref r),some (V.ref W),some (V.ref D),some (V.ref L),x7,x8,x9,none,none]/\Same Gz G/\Same G H'/\H' L=some (.lst hs)/\∀x∈hs,HPr G x) (λN hN=>?_) ?_
 ·refine⟨_,rfl,_,rfl,D,r,rfl,⟨_,SqL.of (sz9 _ _ fz.eD)⟩,⟨_,SqL.of (sz9 _ _ er)⟩,?_⟩
  refine forJ bs.length (λi σ H'=>∃x7 x8 x9 G hs,σ=[some (V.ref a),some (V.ref t),some (V.ref nm),some (V.ref r),some (V.ref W),some (V.ref D),some (V.ref L),x7,x8,x9,none,none]/\Same Gz G/\Same G H'/\G t=none/\G L=none/\H' L=some (.lst hs)/\hs.length<=4 * i/\Tp t (400000000+i) H'/\∀x∈hs,HPr G x) ⟨x7,none,none,Gz,[],rfl,Same.refl _,sz9,fz.nt,fz.nL,eL9,l14 _,tp9.le (by omega),λ_ z=>nomatch z⟩ ?_ ?_ ?_ ?_
  ·rintro i σ H' hi ⟨_,_,_,G,_,_,s1,s2,_⟩
   have sH:=s1.trans s2
   exact⟨_,_,_,_,SqL.of (sH _ _ fz.eD),SqL.of (sH _ _ er),List.getElem?_eq_getElem (by rw[l6];omega),List.getElem?_eq_getElem (by omega)⟩
  ·rintro σ H' ⟨_,_,_,G,_,_,s1,s2,_⟩
   have sH:=s1.trans s2
   exact⟨_,_,SqL.of (sH _ _ fz.eD),SqL.of (sH _ _ er), .inl (by rw[l6];omega)⟩
  ·rintro i σ H' x H2 hi ⟨x7,x8,x9,G,hs,rfl,g1,g2,nt,nL,eL,hhl,tp,hp⟩ y
   obtain⟨T,x1,y1,hx1,hy1,hT,rfl,rfl⟩:=y
   have sH:=g1.trans g2
   have hx1:=hx1 _ (SqL.of (sH _ _ fz.eD))
   have hy1:=hy1 _ (SqL.of (sH _ _ er))
   obtain⟨ab,b,rfl,hbi,_,hab⟩:=fz.blk.get hx1
   obtain⟨d,hdi,dy⟩:=da.getV hy1
   rw[List.getElem?_map,hbi] at hdi
   cases hdi
   have gb:=hok b (l17 hbi)
   refine⟨T,_,rfl,SqT.of aa,rfl,?_⟩
   refine⟨_,_,rfl,_,_,rfl,rfl,?_⟩
   dsimp only[av,sA,sB]
   have sT:=ac hT (.tup [V.ref ab,y1])
   generalize upd H' T (.tup [V.ref ab,y1])=H3 at sT ⊢
   have g3:=g2.trans sT
   refine⟨_,rfl,_,rfl,_,rfl,_,rfl,a,t,ns,6,_,rfl,scr ((fz.base.trans g1).trans g3),tp.same sT,by omega,by decide,λo H4 _ _ k4 tp4=>?_⟩
   have g4:Same G H4:=λb o e=>k4 b o (λz=>by rw[z,nt] at e;cases e) (g3 b o e)
   have eL4:=k4 _ _ (Ne.symm htL) (sT _ _ eL)
   refine⟨_,rfl,ab,L,y1,o,rfl,b,hs,G,g4,nL,cJ 4 _ _ _ _ g1 hab,dy.same g1,gb,eL4,by omega,λxs' G' H5 gr kp e5 hl5 hp5=>⟨true,rfl,ite2 (λz=>nomatch z) λ_=>?_⟩⟩
   refine⟨x7,_,_,G',hs++xs',rfl,g1.trans gr.up,gr.into,gr.non t nt tp4.ne,gr.non L nL (by rw[eL4];exact λz=>nomatch z),e5,by rw[l5];omega,?_,λx hx=>?_⟩
   ·obtain⟨m,e,h0,h1⟩:=tp4
    exact⟨m,kp _ _ htL e,h0,by omega⟩
   ·rcases l18.mp hx with z |z
    ·exact(hp x z).same gr.up
    ·exact hp5 x z
  ·rintro σ H' ⟨x7,x8,x9,G,hs,rfl,g1,g2,nt,nL,eL,hhl,tp,hp⟩
   exact hN _ _ ⟨x7,x8,x9,G,hs,rfl,g1,g2,eL,hp⟩
 rintro _ HA ⟨x7,x8,x9,G,hl,rfl,g1,g2,eLA,hp⟩
 refine bt (λσ' H'=>∃x9 x10,σ'=[some (V.ref a),some (V.ref t),some (V.ref nm),some (V.ref r),some (V.ref W),some (V.ref D),some (V.ref L),x7,x8,x9,x10,none]/\Same Gz H') (λN hN=>?_) ?_
 ·refine⟨_,rfl,L,rfl,⟨_,SqL.of eLA⟩,?_⟩
  refine bN (xs:=hl) (λi σ H'=>∃x9 x10,σ=[some (V.ref a),some (V.ref t),some (V.ref nm),some (V.ref r),some (V.ref W),some (V.ref D),some (V.ref L),x7,x8,x9,x10,none]/\Same HA H') ⟨x9,none,rfl,Same.refl _⟩ ?_ ?_ ?_
  ·rintro i σ H' _ ⟨_,_,_,sA⟩
   exact SqL.of (sA _ _ eLA)
  ·rintro i x σ H' hx ⟨x9',x10,rfl,sA⟩
   obtain⟨p,f1,u1,d,rfl,ep,df,du,hd⟩:=(hp x (l17 hx)).same (g2.trans sA)
   refine⟨p,_,rfl,SqT.of ep,rfl,?_⟩
   refine⟨_,_,rfl,_,_,rfl,rfl,?_⟩
   dsimp only[av,sA,sB]
   exact⟨_,rfl,_,rfl,f1,u1,d,rfl,df,du,hd,λH2 s2=>⟨true,rfl,ite2 (λz=>nomatch z) λ_=>⟨_,_,rfl,sA.trans s2⟩⟩⟩
  ·rintro σ H' ⟨x9',x10,rfl,sA⟩
   exact hN _ _ ⟨x9',x10,rfl,(g1.trans g2).trans sA⟩
 rintro _ HB ⟨x9',x10,rfl,sB⟩
 refine bJ λV8 eV8=>?_
 refine rb rfl sB λr1 HC sC nC eC=>?_
 dsimp only[av,sA,sB]
 refine eV8 _ _ _ ?_
 have sBC:=sB.trans sC
 refine rb rfl sBC λr2 HD sD nD eD=>⟨.inl ⟨rfl,_,SqL.of eD⟩,r2,_,_,rfl,rfl,eD,by rw[l6,hs];have:=hro.1;omega,?_⟩
 have sE:Same HC (upd HD r2 (.lst (rs.map vS++[.str "more"]))):=au nD sD
 generalize upd HD r2 (.lst (rs.map vS++[.str "more"]))=HE at sE ⊢
 have eE:=sE _ _ eC
 have sBE:=sBC.trans sE
 refine⟨_,rfl, .ref r1,_,"list",true,rfl,(bW eE hro).ty,(pH K (ik rs)).2.1,_,rfl,iteT ⟨_,rfl,ra rfl sBE λr3 HF sF nF eF=>⟨ik rs,(bW (sF _ _ eE) hro).den,(bW eF hro).den,dep,_,rfl,iteT (rb rfl (sBE.trans sF) λr4 HG sG nG eG=>⟨_,rfl,ik rs,(bW eG hro).den,(bW (sG _ _ (sF _ _ eE)) hro).den,dep,q HG⟩)⟩⟩⟩
end
end K11
namespace K11
open PySem L2 Lm Lw
theorem b1 {α:Type}{p:List α->Prop}(h:∀a,p [a])(us:List α)(hl:us.length=1):p us:=match us,hl with | [a],_=>h a
theorem b2 {α:Type}{p:List α->Prop}(h:∀a b,p [a,b])(us:List α)(hl:us.length=2):p us:=match us,hl with | [a,b],_=>h a b
theorem b3 {α:Type}{p:List α->Prop}(h:∀a b c,p [a,b,c])(us:List α)(hl:us.length=3):p us:=match us,hl with | [a,b,c],_=>h a b c
theorem b4 {α:Type}{p:List α->Prop}(h:∀a b c d,p [a,b,c,d])(us:List α)(hl:us.length=4):p us:=match us,hl with | [a,b,c,d],_=>h a b c d
theorem b5 {α:Type}{p:List α->Prop}(h:∀a b c d e,p [a,b,c,d,e])(us:List α)(hl:us.length=5):p us:=match us,hl with | [a,b,c,d,e],_=>h a b c d e
theorem aX {P:Program}{w:World}{K:PySem.W.Frag}{mg:Str->Option Value}{base:Heap}{j k:Nat}{x:Str}{ps:List Str}{sp:Sp}(D:Def P w K mg base j x ps sp)(h:j<=k):Def P w K mg base k x ps sp:=let ⟨f,fd,a,r⟩:=D.ex;⟨f,fd,a.mono h,r⟩
theorem mv_mono {P:Program}{w:World}{K:PySem.W.Frag}{mg:Str->Option Value}{base:Heap}{j k:Nat}{β:Type}{m:Str}{R:Hp->Addr->β->Prop}{ok:β->Prop}{post:β->Hp->V->Hp->Prop}(M:MV P w K mg base j m R ok post)(h:j<=k):MV P w K mg base k m R ok post:=λb hb H a x=>let ⟨C,dx,fs,sp,e1,e2,V,g⟩:=M b hb H a x;⟨C,dx,fs,sp,e1,e2,V.mono h,g⟩
def cB:Nat->Int
 |0=>200000
 |n+1=>2 * cB n+200000
theorem kN:∀n,0<=cB n
 |0=>by decide
 |n+1=>by have:=kN n;show (0:Int)<=2 * cB n+200000;omega
def kB:Nat->Nat
 |0=>1000
 |n+1=>2 * kB n+1000
structure FnIn (K:PySem.W.Frag)(x:Str)(st:Stmt):Prop where
 ex:∃(f:Addr) (oc:Value) (od:Option Addr) (kV dc pm:Value) (an:Option Addr) (cd ct:Value) (sl:Array (Option Value)),PySem.W.nsIn K mainGlobals x=some (some (.ref f)) ∧
  K.lookup f=some ⟨oc,od, .func (PySem.W.fnOf x x (bT st) (bB st) (ad st) .none kV dc pm an cd ct),sl⟩/\PySem.W.codeIn K cd x=true/\PySem.W.keepIn K (.ref f)=true
theorem fnIn_mk {K:PySem.W.Frag}{x:Str}{st:Stmt}{f:Addr}{oc:Value}{od:Option Addr}{kV dc pm:Value}{an:Option Addr}{cd ct:Value}{sl:Array (Option Value)}(a:PySem.W.nsIn K mainGlobals x=some (some (.ref f)))
  (l:K.lookup f=some ⟨oc,od, .func (PySem.W.fnOf x x (bT st) (bB st) (ad st) .none kV dc pm an cd ct),sl⟩)(c:PySem.W.codeIn K cd x=true)(k:PySem.W.keepIn K (.ref f)=true):FnIn K x st:=
 ⟨f,oc,od,kV,dc,pm,an,cd,ct,sl,a,l,c,k⟩
section
variable {P:Program}{w:World}{K:PySem.W.Frag}{h:Heap}{mg:Str->Option Value}{base:Heap}{x:Str}{st:Stmt}{ps:List Str}{k:Nat}{sp:Sp}
theorem aj (X:K.In h)(G:h.Ns mainGlobals mg)(F:FnIn K x st)
  (hb:∀(kV doc pm:Value)(an:Option Addr)(cdv ct:Value)(us:List Value),us.length=ps.length->bindArgs (PySem.W.fnOf x x (bT st) (bB st) (ad st) .none kV doc pm an cdv ct) ⟨us,[]⟩=pure (ps.zip us))
  (ok:∀f fd,Fun K x x st f fd->FnOk P w K mg base CX0 k f fd ps sp):Def P w K mg base k x ps sp:=by
 obtain⟨f,oc,od,kV,dc,pm,an,cd,ct,sl,a,l,c,kp⟩:=F.ex
 have F1:=mt (st:=st) l c kp
 exact⟨f,_,ok f _ F1,PySem.W.mg_of X G a,F1.kp,F1.binds hb⟩
def spNo:Sp:=λ_ _ _ _=>False
theorem fR {CX:CXT}{f:Addr}{fd:FuncData}:FnOk P w K mg base CX k f fd ps spNo:=⟨λ_ _ _ _ z=>z.elim,λ_ _ _ _ _ _ _ _ _ _ _ _ _ z=>z.elim⟩
end
theorem cst_mk {K:PySem.W.Frag}{x:Str}{p:Value->Prop}{v:Value}(e:PySem.W.nsIn K mainGlobals x=some (some v))(f:p v):∃v,PySem.W.nsIn K mainGlobals x=some (some v)/\p v:=⟨v,e,f⟩
theorem ownx_VE {K:PySem.W.Frag}{C:Addr}(q:PySem.W.excIn K C [.type "ValueError", .type "Exception", .type "BaseException", .type "object"] "ValueError.__new__"=true):OwnX K C:=⟨_,_,_,_,q,PySem.F.excBase_ValueError⟩
structure MIn (K:PySem.W.Frag)(C:Addr)(x qual:Str)(st:Stmt):Prop where
 ex:∃(f:Addr) (oc:Value) (od:Option Addr) (kV dc pm:Value) (an:Option Addr) (cd ct:Value) (sl:Array (Option Value)),PySem.W.findIn K (.ref C) x=some (some (.ref f))/\PySem.W.isFn K (.ref f)=true ∧
  K.lookup f=some ⟨oc,od, .func (PySem.W.fnOf x qual (bT st) (bB st) (ad st) .none kV dc pm an cd ct),sl⟩/\PySem.W.codeIn K cd qual=true/\PySem.W.keepIn K (.ref f)=true
theorem mIn_mk {K:PySem.W.Frag}{C:Addr}{x qual:Str}{st:Stmt}{f:Addr}{oc:Value}{od:Option Addr}{kV dc pm:Value}{an:Option Addr}{cd ct:Value}{sl:Array (Option Value)}(a:PySem.W.findIn K (.ref C) x=some (some (.ref f)))(i:PySem.W.isFn K (.ref f)=true)
  (l:K.lookup f=some ⟨oc,od, .func (PySem.W.fnOf x qual (bT st) (bB st) (ad st) .none kV dc pm an cd ct),sl⟩)(c:PySem.W.codeIn K cd qual=true)(k:PySem.W.keepIn K (.ref f)=true):MIn K C x qual st:=
 ⟨f,oc,od,kV,dc,pm,an,cd,ct,sl,a,i,l,c,k⟩
theorem cy {P:Program}{w:World}{K:PySem.W.Frag}{mg:Str->Option Value}{base:Heap}{x qual:Str}{C:Addr}{st:Stmt}{ps:List Str}{k:Nat}{sp:Sp}(hm:mg x=some (.ref C))(mk:PySem.W.makesIn K C=true)(kc:PySem.W.keepIn K (.ref C)=true)(M:MIn K C "__init__" qual st)
  (hb:∀(kV doc pm:Value)(an:Option Addr)(cdv ct:Value)(us:List Value),us.length=ps.length->bindArgs (PySem.W.fnOf "__init__" qual (bT st) (bB st) (ad st) .none kV doc pm an cdv ct) ⟨us,[]⟩=pure (ps.zip us))
  (ok:∀f fd,Fun K "__init__" qual st f fd->FnOk P w K mg base CX0 k f fd ps sp):New P w K mg base k x C ps sp:=by
 obtain⟨f,oc,od,kV,dc,pm,an,cd,ct,sl,a,i,l,c,kp⟩:=M.ex
 have F1:=mt (st:=st) l c kp
 exact⟨f,_,⟨mk,a,i,kc⟩,ok f _ F1,hm,F1.binds hb⟩
theorem aM {P:Program}{w:World}{K:PySem.W.Frag}{mg:Str->Option Value}{base:Heap}{x qual:Str}{C:Addr}{st:Stmt}{ps:List Str}{k:Nat}{sp:Sp}(hc:Cls K C)(M:MIn K C x qual st)
  (hb:∀(kV doc pm:Value)(an:Option Addr)(cdv ct:Value)(us:List Value),us.length=ps.length->bindArgs (PySem.W.fnOf x qual (bT st) (bB st) (ad st) .none kV doc pm an cdv ct) ⟨us,[]⟩=pure (ps.zip us))
  (ok:∀f fd,Fun K x qual st f fd->FnOk P w K mg base CX0 k f fd ps sp):MethV P w K mg base k C x ps sp:=by
 obtain⟨f,oc,od,kV,dc,pm,an,cd,ct,sl,a,i,l,c,kp⟩:=M.ex
 have F1:=mt (st:=st) l c kp
 exact⟨f,_,hc,⟨a,i,kp⟩,ok f _ F1,F1.binds hb⟩
structure PIn (K:PySem.W.Frag)(C:Addr):Prop where
 mkc:PySem.W.makesIn K C=true
 kc:PySem.W.keepIn K (.ref C)=true
 pg:PySem.W.plainGet K C Str.empty=true
 hd:PySem.W.hasDictIn K C=true
 po:PySem.W.plainOver K C=true
 sa:PySem.W.findIn K (.ref C) "__setattr__"=some (some (.builtin "object.__setattr__"))
 ha:PySem.W.findIn K (.ref C) "__class__"=some (some (.builtin "object.__class__"))
 hn:PySem.W.specialIn K (.builtin "object.__class__") "__get__"=some (some (.builtin "getset_descriptor.__get__"))
 ht:PySem.W.takesIn K (.builtin "object.__class__")=some true
 hm:PySem.W.mroIn K C (.type "object")=some true
theorem PIn.cls {K:PySem.W.Frag}{C:Addr}(p:PIn K C):Cls K C:=⟨p.pg,p.hd,p.po,p.sa⟩
theorem PIn.inst {K:PySem.W.Frag}{C:Addr}(p:PIn K C):Inst K C:=⟨p.cls,p.ha,p.hn,p.ht,p.hm⟩
structure Addrs where
 BadName:Addr
 Plain:Addr
 Code:Addr
 Strong:Addr
 Link:Addr
 Mark:Addr
 Heading:Addr
 Para:Addr
 Literal:Addr
 Quote:Addr
 Naming:Addr
 Noting:Addr
 Entry:Addr
 Listing:Addr
 Table:Addr
structure ClsT (K:PySem.W.Frag)(c:Addrs):Prop where
 c_BadName:PySem.W.nsIn K mainGlobals "BadName"=some (some (.ref c.BadName))
 c_Plain:PySem.W.nsIn K mainGlobals "Plain"=some (some (.ref c.Plain))
 c_Code:PySem.W.nsIn K mainGlobals "Code"=some (some (.ref c.Code))
 c_Strong:PySem.W.nsIn K mainGlobals "Strong"=some (some (.ref c.Strong))
 c_Link:PySem.W.nsIn K mainGlobals "Link"=some (some (.ref c.Link))
 c_Mark:PySem.W.nsIn K mainGlobals "Mark"=some (some (.ref c.Mark))
 c_Heading:PySem.W.nsIn K mainGlobals "Heading"=some (some (.ref c.Heading))
 c_Para:PySem.W.nsIn K mainGlobals "Para"=some (some (.ref c.Para))
 c_Literal:PySem.W.nsIn K mainGlobals "Literal"=some (some (.ref c.Literal))
 c_Quote:PySem.W.nsIn K mainGlobals "Quote"=some (some (.ref c.Quote))
 c_Naming:PySem.W.nsIn K mainGlobals "Naming"=some (some (.ref c.Naming))
 c_Noting:PySem.W.nsIn K mainGlobals "Noting"=some (some (.ref c.Noting))
 c_Entry:PySem.W.nsIn K mainGlobals "Entry"=some (some (.ref c.Entry))
 c_Listing:PySem.W.nsIn K mainGlobals "Listing"=some (some (.ref c.Listing))
 c_Table:PySem.W.nsIn K mainGlobals "Table"=some (some (.ref c.Table))
 x_BadName:OwnX K c.BadName
 p_Plain:PIn K c.Plain
 n_Plain_signs:PySem.W.findIn K (.ref c.Plain) "signs"=some none
 p_Code:PIn K c.Code
 n_Code_signs:PySem.W.findIn K (.ref c.Code) "signs"=some none
 p_Strong:PIn K c.Strong
 n_Strong_parts:PySem.W.findIn K (.ref c.Strong) "parts"=some none
 p_Link:PIn K c.Link
 n_Link_words:PySem.W.findIn K (.ref c.Link) "words"=some none
 n_Link_name:PySem.W.findIn K (.ref c.Link) "name"=some none
 p_Mark:PIn K c.Mark
 n_Mark_name:PySem.W.findIn K (.ref c.Mark) "name"=some none
 p_Heading:PIn K c.Heading
 n_Heading_level:PySem.W.findIn K (.ref c.Heading) "level"=some none
 n_Heading_parts:PySem.W.findIn K (.ref c.Heading) "parts"=some none
 p_Para:PIn K c.Para
 n_Para_parts:PySem.W.findIn K (.ref c.Para) "parts"=some none
 p_Literal:PIn K c.Literal
 n_Literal_lines:PySem.W.findIn K (.ref c.Literal) "lines"=some none
 p_Quote:PIn K c.Quote
 n_Quote_blocks:PySem.W.findIn K (.ref c.Quote) "blocks"=some none
 p_Naming:PIn K c.Naming
 n_Naming_name:PySem.W.findIn K (.ref c.Naming) "name"=some none
 n_Naming_target:PySem.W.findIn K (.ref c.Naming) "target"=some none
 p_Noting:PIn K c.Noting
 n_Noting_name:PySem.W.findIn K (.ref c.Noting) "name"=some none
 n_Noting_parts:PySem.W.findIn K (.ref c.Noting) "parts"=some none
 p_Entry:PIn K c.Entry
 n_Entry_sign:PySem.W.findIn K (.ref c.Entry) "sign"=some none
 n_Entry_parts:PySem.W.findIn K (.ref c.Entry) "parts"=some none
 n_Entry_entries:PySem.W.findIn K (.ref c.Entry) "entries"=some none
 p_Listing:PIn K c.Listing
 n_Listing_entries:PySem.W.findIn K (.ref c.Listing) "entries"=some none
 p_Table:PIn K c.Table
 n_Table_head:PySem.W.findIn K (.ref c.Table) "head"=some none
 n_Table_sides:PySem.W.findIn K (.ref c.Table) "sides"=some none
 n_Table_lines:PySem.W.findIn K (.ref c.Table) "lines"=some none
 j_Plain_Plain:PySem.W.kitOne K (.ref c.Plain) (.ref c.Plain)=some true
 j_Plain_Mark:PySem.W.kitOne K (.ref c.Plain) (.ref c.Mark)=some false
 j_Code_Plain:PySem.W.kitOne K (.ref c.Code) (.ref c.Plain)=some false
 j_Code_Mark:PySem.W.kitOne K (.ref c.Code) (.ref c.Mark)=some false
 j_Strong_Plain:PySem.W.kitOne K (.ref c.Strong) (.ref c.Plain)=some false
 j_Strong_Mark:PySem.W.kitOne K (.ref c.Strong) (.ref c.Mark)=some false
 j_Link_Plain:PySem.W.kitOne K (.ref c.Link) (.ref c.Plain)=some false
 j_Link_Mark:PySem.W.kitOne K (.ref c.Link) (.ref c.Mark)=some false
 j_Mark_Plain:PySem.W.kitOne K (.ref c.Mark) (.ref c.Plain)=some false
 j_Mark_Mark:PySem.W.kitOne K (.ref c.Mark) (.ref c.Mark)=some true
 m_Plain_Init:MIn K c.Plain "__init__" "Plain.__init__" dC
 m_Plain_Told:MIn K c.Plain "told" "Plain.told" dF
 m_Plain_Raw:MIn K c.Plain "raw" "Plain.raw" eZ
 m_Code_Init:MIn K c.Code "__init__" "Code.__init__" eJ
 m_Code_Told:MIn K c.Code "told" "Code.told" eO
 m_Code_Raw:MIn K c.Code "raw" "Code.raw" fT
 m_Strong_Init:MIn K c.Strong "__init__" "Strong.__init__" cO
 m_Strong_Told:MIn K c.Strong "told" "Strong.told" cP
 m_Strong_Raw:MIn K c.Strong "raw" "Strong.raw" dG
 m_Link_Init:MIn K c.Link "__init__" "Link.__init__" eM
 m_Link_Told:MIn K c.Link "told" "Link.told" eQ
 m_Link_Raw:MIn K c.Link "raw" "Link.raw" fU
 m_Mark_Init:MIn K c.Mark "__init__" "Mark.__init__" eN
 m_Mark_Told:MIn K c.Mark "told" "Mark.told" eR
 m_Mark_Raw:MIn K c.Mark "raw" "Mark.raw" fV
 m_Heading_Init:MIn K c.Heading "__init__" "Heading.__init__" ck
 m_Heading_Told:MIn K c.Heading "told" "Heading.told" cr
 m_Heading_W:MIn K c.Heading "written" "Heading.written" fh
 m_Para_Init:MIn K c.Para "__init__" "Para.__init__" fc
 m_Para_Told:MIn K c.Para "told" "Para.told" fg
 m_Para_W:MIn K c.Para "written" "Para.written" mU
 m_Literal_Init:MIn K c.Literal "__init__" "Literal.__init__" cm
 m_Literal_Told:MIn K c.Literal "told" "Literal.told" cu
 m_Literal_W:MIn K c.Literal "written" "Literal.written" fj
 m_Quote_Init:MIn K c.Quote "__init__" "Quote.__init__" dI
 m_Quote_Told:MIn K c.Quote "told" "Quote.told" dM
 m_Quote_W:MIn K c.Quote "written" "Quote.written" gP
 m_Naming_Init:MIn K c.Naming "__init__" "Naming.__init__" cQ
 m_Naming_Told:MIn K c.Naming "told" "Naming.told" cT
 m_Naming_W:MIn K c.Naming "written" "Naming.written" fW
 m_Noting_Init:MIn K c.Noting "__init__" "Noting.__init__" cR
 m_Noting_Told:MIn K c.Noting "told" "Noting.told" cU
 m_Noting_W:MIn K c.Noting "written" "Noting.written" fX
 m_Entry_Init:MIn K c.Entry "__init__" "Entry.__init__" dJ
 m_Entry_Told:MIn K c.Entry "told" "Entry.told" dN
 m_Listing_Init:MIn K c.Listing "__init__" "Listing.__init__" cq
 m_Listing_Told:MIn K c.Listing "told" "Listing.told" cv
 m_Listing_W:MIn K c.Listing "written" "Listing.written" fk
 m_Table_Init:MIn K c.Table "__init__" "Table.__init__" dL
 m_Table_Told:MIn K c.Table "told" "Table.told" dO
 m_Table_W:MIn K c.Table "written" "Table.written" gQ
theorem cls_mk {K:PySem.W.Frag}{aBadName aPlain aCode aStrong aLink aMark aHeading aPara aLiteral aQuote aNaming aNoting aEntry aListing aTable:Addr}
  (c_BadName:PySem.W.nsIn K mainGlobals "BadName"=some (some (.ref aBadName)))
  (c_Plain:PySem.W.nsIn K mainGlobals "Plain"=some (some (.ref aPlain)))
  (c_Code:PySem.W.nsIn K mainGlobals "Code"=some (some (.ref aCode)))
  (c_Strong:PySem.W.nsIn K mainGlobals "Strong"=some (some (.ref aStrong)))
  (c_Link:PySem.W.nsIn K mainGlobals "Link"=some (some (.ref aLink)))
  (c_Mark:PySem.W.nsIn K mainGlobals "Mark"=some (some (.ref aMark)))
  (c_Heading:PySem.W.nsIn K mainGlobals "Heading"=some (some (.ref aHeading)))
  (c_Para:PySem.W.nsIn K mainGlobals "Para"=some (some (.ref aPara)))
  (c_Literal:PySem.W.nsIn K mainGlobals "Literal"=some (some (.ref aLiteral)))
  (c_Quote:PySem.W.nsIn K mainGlobals "Quote"=some (some (.ref aQuote)))
  (c_Naming:PySem.W.nsIn K mainGlobals "Naming"=some (some (.ref aNaming)))
  (c_Noting:PySem.W.nsIn K mainGlobals "Noting"=some (some (.ref aNoting)))
  (c_Entry:PySem.W.nsIn K mainGlobals "Entry"=some (some (.ref aEntry)))
  (c_Listing:PySem.W.nsIn K mainGlobals "Listing"=some (some (.ref aListing)))
  (c_Table:PySem.W.nsIn K mainGlobals "Table"=some (some (.ref aTable)))
  (x_BadName:OwnX K aBadName)
  (p_Plain:PIn K aPlain)
  (n_Plain_signs:PySem.W.findIn K (.ref aPlain) "signs"=some none)
  (p_Code:PIn K aCode)
  (n_Code_signs:PySem.W.findIn K (.ref aCode) "signs"=some none)
  (p_Strong:PIn K aStrong)
  (n_Strong_parts:PySem.W.findIn K (.ref aStrong) "parts"=some none)
  (p_Link:PIn K aLink)
  (n_Link_words:PySem.W.findIn K (.ref aLink) "words"=some none)
  (n_Link_name:PySem.W.findIn K (.ref aLink) "name"=some none)
  (p_Mark:PIn K aMark)
  (n_Mark_name:PySem.W.findIn K (.ref aMark) "name"=some none)
  (p_Heading:PIn K aHeading)
  (n_Heading_level:PySem.W.findIn K (.ref aHeading) "level"=some none)
  (n_Heading_parts:PySem.W.findIn K (.ref aHeading) "parts"=some none)
  (p_Para:PIn K aPara)
  (n_Para_parts:PySem.W.findIn K (.ref aPara) "parts"=some none)
  (p_Literal:PIn K aLiteral)
  (n_Literal_lines:PySem.W.findIn K (.ref aLiteral) "lines"=some none)
  (p_Quote:PIn K aQuote)
  (n_Quote_blocks:PySem.W.findIn K (.ref aQuote) "blocks"=some none)
  (p_Naming:PIn K aNaming)
  (n_Naming_name:PySem.W.findIn K (.ref aNaming) "name"=some none)
  (n_Naming_target:PySem.W.findIn K (.ref aNaming) "target"=some none)
  (p_Noting:PIn K aNoting)
  (n_Noting_name:PySem.W.findIn K (.ref aNoting) "name"=some none)
  (n_Noting_parts:PySem.W.findIn K (.ref aNoting) "parts"=some none)
  (p_Entry:PIn K aEntry)
  (n_Entry_sign:PySem.W.findIn K (.ref aEntry) "sign"=some none)
  (n_Entry_parts:PySem.W.findIn K (.ref aEntry) "parts"=some none)
  (n_Entry_entries:PySem.W.findIn K (.ref aEntry) "entries"=some none)
  (p_Listing:PIn K aListing)
  (n_Listing_entries:PySem.W.findIn K (.ref aListing) "entries"=some none)
  (p_Table:PIn K aTable)
  (n_Table_head:PySem.W.findIn K (.ref aTable) "head"=some none)
  (n_Table_sides:PySem.W.findIn K (.ref aTable) "sides"=some none)
  (n_Table_lines:PySem.W.findIn K (.ref aTable) "lines"=some none)
  (j_Plain_Plain:PySem.W.kitOne K (.ref aPlain) (.ref aPlain)=some true)
  (j_Plain_Mark:PySem.W.kitOne K (.ref aPlain) (.ref aMark)=some false)
  (j_Code_Plain:PySem.W.kitOne K (.ref aCode) (.ref aPlain)=some false)
  (j_Code_Mark:PySem.W.kitOne K (.ref aCode) (.ref aMark)=some false)
  (j_Strong_Plain:PySem.W.kitOne K (.ref aStrong) (.ref aPlain)=some false)
  (j_Strong_Mark:PySem.W.kitOne K (.ref aStrong) (.ref aMark)=some false)
  (j_Link_Plain:PySem.W.kitOne K (.ref aLink) (.ref aPlain)=some false)
  (j_Link_Mark:PySem.W.kitOne K (.ref aLink) (.ref aMark)=some false)
  (j_Mark_Plain:PySem.W.kitOne K (.ref aMark) (.ref aPlain)=some false)
  (j_Mark_Mark:PySem.W.kitOne K (.ref aMark) (.ref aMark)=some true)
  (m_Plain_Init:MIn K aPlain "__init__" "Plain.__init__" dC)
  (m_Plain_Told:MIn K aPlain "told" "Plain.told" dF)
  (m_Plain_Raw:MIn K aPlain "raw" "Plain.raw" eZ)
  (m_Code_Init:MIn K aCode "__init__" "Code.__init__" eJ)
  (m_Code_Told:MIn K aCode "told" "Code.told" eO)
  (m_Code_Raw:MIn K aCode "raw" "Code.raw" fT)
  (m_Strong_Init:MIn K aStrong "__init__" "Strong.__init__" cO)
  (m_Strong_Told:MIn K aStrong "told" "Strong.told" cP)
  (m_Strong_Raw:MIn K aStrong "raw" "Strong.raw" dG)
  (m_Link_Init:MIn K aLink "__init__" "Link.__init__" eM)
  (m_Link_Told:MIn K aLink "told" "Link.told" eQ)
  (m_Link_Raw:MIn K aLink "raw" "Link.raw" fU)
  (m_Mark_Init:MIn K aMark "__init__" "Mark.__init__" eN)
  (m_Mark_Told:MIn K aMark "told" "Mark.told" eR)
  (m_Mark_Raw:MIn K aMark "raw" "Mark.raw" fV)
  (m_Heading_Init:MIn K aHeading "__init__" "Heading.__init__" ck)
  (m_Heading_Told:MIn K aHeading "told" "Heading.told" cr)
  (m_Heading_W:MIn K aHeading "written" "Heading.written" fh)
  (m_Para_Init:MIn K aPara "__init__" "Para.__init__" fc)
  (m_Para_Told:MIn K aPara "told" "Para.told" fg)
  (m_Para_W:MIn K aPara "written" "Para.written" mU)
  (m_Literal_Init:MIn K aLiteral "__init__" "Literal.__init__" cm)
  (m_Literal_Told:MIn K aLiteral "told" "Literal.told" cu)
  (m_Literal_W:MIn K aLiteral "written" "Literal.written" fj)
  (m_Quote_Init:MIn K aQuote "__init__" "Quote.__init__" dI)
  (m_Quote_Told:MIn K aQuote "told" "Quote.told" dM)
  (m_Quote_W:MIn K aQuote "written" "Quote.written" gP)
  (m_Naming_Init:MIn K aNaming "__init__" "Naming.__init__" cQ)
  (m_Naming_Told:MIn K aNaming "told" "Naming.told" cT)
  (m_Naming_W:MIn K aNaming "written" "Naming.written" fW)
  (m_Noting_Init:MIn K aNoting "__init__" "Noting.__init__" cR)
  (m_Noting_Told:MIn K aNoting "told" "Noting.told" cU)
  (m_Noting_W:MIn K aNoting "written" "Noting.written" fX)
  (m_Entry_Init:MIn K aEntry "__init__" "Entry.__init__" dJ)
  (m_Entry_Told:MIn K aEntry "told" "Entry.told" dN)
  (m_Listing_Init:MIn K aListing "__init__" "Listing.__init__" cq)
  (m_Listing_Told:MIn K aListing "told" "Listing.told" cv)
  (m_Listing_W:MIn K aListing "written" "Listing.written" fk)
  (m_Table_Init:MIn K aTable "__init__" "Table.__init__" dL)
  (m_Table_Told:MIn K aTable "told" "Table.told" dO)
  (m_Table_W:MIn K aTable "written" "Table.written" gQ)
  : ∃c:Addrs,ClsT K c:=⟨⟨aBadName,aPlain,aCode,aStrong,aLink,aMark,aHeading,aPara,aLiteral,aQuote,aNaming,aNoting,aEntry,aListing,aTable⟩,⟨c_BadName,c_Plain,c_Code,c_Strong,c_Link,c_Mark,c_Heading,c_Para,c_Literal,c_Quote,c_Naming,c_Noting,c_Entry,c_Listing,c_Table,x_BadName,p_Plain,n_Plain_signs,p_Code,n_Code_signs,p_Strong,n_Strong_parts,p_Link,n_Link_words,n_Link_name,p_Mark,n_Mark_name,p_Heading,n_Heading_level,n_Heading_parts,p_Para,n_Para_parts,p_Literal,n_Literal_lines,p_Quote,n_Quote_blocks,p_Naming,n_Naming_name,n_Naming_target,p_Noting,n_Noting_name,n_Noting_parts,p_Entry,n_Entry_sign,n_Entry_parts,n_Entry_entries,p_Listing,n_Listing_entries,p_Table,n_Table_head,n_Table_sides,n_Table_lines,j_Plain_Plain,j_Plain_Mark,j_Code_Plain,j_Code_Mark,j_Strong_Plain,j_Strong_Mark,j_Link_Plain,j_Link_Mark,j_Mark_Plain,j_Mark_Mark,m_Plain_Init,m_Plain_Told,m_Plain_Raw,m_Code_Init,m_Code_Told,m_Code_Raw,m_Strong_Init,m_Strong_Told,m_Strong_Raw,m_Link_Init,m_Link_Told,m_Link_Raw,m_Mark_Init,m_Mark_Told,m_Mark_Raw,m_Heading_Init,m_Heading_Told,m_Heading_W,m_Para_Init,m_Para_Told,m_Para_W,m_Literal_Init,m_Literal_Told,m_Literal_W,m_Quote_Init,m_Quote_Told,m_Quote_W,m_Naming_Init,m_Naming_Told,m_Naming_W,m_Noting_Init,m_Noting_Told,m_Noting_W,m_Entry_Init,m_Entry_Told,m_Listing_Init,m_Listing_Told,m_Listing_W,m_Table_Init,m_Table_Told,m_Table_W⟩⟩
structure Top (K:PySem.W.Frag):Prop where
 f_told_parts:FnIn K "told_parts" pI
 f_is_parting_bar:FnIn K "is_parting_bar" sBar
 f_words_of:FnIn K "words_of" pS
 f_tidy:FnIn K "tidy" sTidy
 f_split_cells:FnIn K "split_cells" pT
 f_is_name:FnIn K "is_name" sName
 f_name_of:FnIn K "name_of" lE
 f_rest_of_quote:FnIn K "rest_of_quote" sRest
 f_heading_level:FnIn K "heading_level" sHead
 f_is_cells:FnIn K "is_cells" sIsC
 f_definition_of:FnIn K "definition_of" sDef
 f_item_or_plain:FnIn K "item_or_plain" sItem
 f_sort_of:FnIn K "sort_of" sSort
 f_cell_text:FnIn K "cell_text" gG
 f_is_rule:FnIn K "is_rule" sRule
 f_escaped:FnIn K "escaped" i6
 f_raw_of:FnIn K "raw_of" pR
 f_own_cells:FnIn K "own_cells" sOwn
 f_told_entries:FnIn K "told_entries" lQ
 f_told_cells:FnIn K "told_cells" qc
 f_quoted:FnIn K "quoted" lV
 f_rows_between:FnIn K "rows_between" qi
 f_barred:FnIn K "barred" lW
 f_written_cell:FnIn K "written_cell" sWC
 f_cells_row:FnIn K "cells_row" sCR
 f_sides_row:FnIn K "sides_row" sSR
 f_entry_rows:FnIn K "entry_rows" sES
 f__law_draw:FnIn K "_law_draw" sDraw
 f__law_text:FnIn K "_law_text" sText
 f__law_names:FnIn K "_law_names" qq
 f__law_part:FnIn K "_law_part" sPart
 f__law_some:FnIn K "_law_some" sSome
 f__law_parts:FnIn K "_law_parts" qz
 f__law_cell:FnIn K "_law_cell" sCell
 f__law_cells:FnIn K "_law_cells" ma
 f__law_table:FnIn K "_law_table" m4
 f__law_entries:FnIn K "_law_entries" sEnts
 f__law_literal:FnIn K "_law_literal" sLit
 f__law_block:FnIn K "_law_block" qD
 f__law_blocks:FnIn K "_law_blocks" me
 f__law_back:FnIn K "_law_back" jl
 f__law_raw:FnIn K "_law_raw" sLRaw
 f__law_is_rule:FnIn K "_law_is_rule" qH
 f__law_line:FnIn K "_law_line" sLine
 f__law_table_rows:FnIn K "_law_table_rows" sTR
 f__law_entry_rows:FnIn K "_law_entry_rows" sER
 f__law_rows:FnIn K "_law_rows" m8
 f__law_all_rows:FnIn K "_law_all_rows" sAll
 f__law_kept:FnIn K "_law_kept" sKept
 f__law_part_of:FnIn K "_law_part_of" sPtOf
 f__law_parts_of:FnIn K "_law_parts_of" sPsOf
 f__law_cells_of:FnIn K "_law_cells_of" sCsOf
 f__law_entries_of:FnIn K "_law_entries_of" sEsOf
 f__law_block_of:FnIn K "_law_block_of" sBkOf
 f__law_longer:FnIn K "_law_longer" mh
 f__law_alike:FnIn K "_law_alike" q8
 f__law_told_right:FnIn K "_law_told_right" rc
 f__law_written_right:FnIn K "_law_written_right" nu
 f__law_asked:FnIn K "_law_asked" rd
 f_law:FnIn K "law" fO
 n_list:PySem.W.nsIn K mainGlobals "list"=some none
 n_len:PySem.W.nsIn K mainGlobals "len"=some none
 n_isinstance:PySem.W.nsIn K mainGlobals "isinstance"=some none
 n_all:PySem.W.nsIn K mainGlobals "all"=some none
 n_str:PySem.W.nsIn K mainGlobals "str"=some none
 n_tuple:PySem.W.nsIn K mainGlobals "tuple"=some none
 n_range:PySem.W.nsIn K mainGlobals "range"=some none
 n_int:PySem.W.nsIn K mainGlobals "int"=some none
 n_enumerate:PySem.W.nsIn K mainGlobals "enumerate"=some none
 n_bool:PySem.W.nsIn K mainGlobals "bool"=some none
 n_zip:PySem.W.nsIn K mainGlobals "zip"=some none
 g_NAME_SIGNS:∃v,PySem.W.nsIn K mainGlobals "NAME_SIGNS"=some (some v)/\∃t,v = .str (S nameSigns) t
 g_LONGEST_NAME:∃v,PySem.W.nsIn K mainGlobals "LONGEST_NAME"=some (some v)/\∃t,v = .int 12 t
 g_FENCE:∃v,PySem.W.nsIn K mainGlobals "FENCE"=some (some v)/\∃t,v = .str (S [126,126,126]) t
 g_DEEPEST_HEADING:∃v,PySem.W.nsIn K mainGlobals "DEEPEST_HEADING"=some (some v)/\∃t,v = .int 3 t
 g_NAME_END:∃v,PySem.W.nsIn K mainGlobals "NAME_END"=some (some v)/\∃t,v = .str (S [93,58,32]) t
 g_ESCAPED:∃v,PySem.W.nsIn K mainGlobals "ESCAPED"=some (some v)/\∃t,v = .str (S escC) t
 cl:∃c:Addrs,ClsT K c
theorem all_law {P:Program}{w:World}{K:PySem.W.Frag}{h:Heap}{mg:Str->Option Value}{fa:Addr}(X:K.In h)(G:h.Ns mainGlobals mg)(hfa:mg "law"=some (.ref fa))(t:Top K):
  ∃fd:FuncData,(∀(s:Shared) (v:Value),BindsTo s fd ⟨[v],[]⟩ [("_law_script",v)])/\∀base:Heap,K.In base->base.Ns mainGlobals mg->FnOk P w K mg base CX0 61 fa fd ["_law_script"] (re K):=by
 obtain⟨z,L⟩:=t.cl
 let cp:Cp:=⟨0,z.Plain,z.Code,z.Strong,z.Link,z.Mark⟩
 let c:Cb:=⟨cp,z.Heading,z.Para,z.Literal,z.Quote,z.Naming,z.Noting,z.Entry,z.Listing,z.Table⟩
 have n_list:=PySem.W.mg_none_of X G t.n_list
 have n_len:=PySem.W.mg_none_of X G t.n_len
 have n_isinstance:=PySem.W.mg_none_of X G t.n_isinstance
 have n_all:=PySem.W.mg_none_of X G t.n_all
 have n_str:=PySem.W.mg_none_of X G t.n_str
 have n_tuple:=PySem.W.mg_none_of X G t.n_tuple
 have n_range:=PySem.W.mg_none_of X G t.n_range
 have n_int:=PySem.W.mg_none_of X G t.n_int
 have n_enumerate:=PySem.W.mg_none_of X G t.n_enumerate
 have n_bool:=PySem.W.mg_none_of X G t.n_bool
 have n_zip:=PySem.W.mg_none_of X G t.n_zip
 have g_NAME_SIGNS:∃t,mg "NAME_SIGNS"=some (.str (S nameSigns) t):=by obtain⟨v,e,k,rfl⟩:=t.g_NAME_SIGNS;exact⟨k,PySem.W.mg_of X G e⟩
 have g_LONGEST_NAME:∃t,mg "LONGEST_NAME"=some (.int 12 t):=by obtain⟨v,e,k,rfl⟩:=t.g_LONGEST_NAME;exact⟨k,PySem.W.mg_of X G e⟩
 have g_FENCE:∃t,mg "FENCE"=some (.str (S [126,126,126]) t):=by obtain⟨v,e,k,rfl⟩:=t.g_FENCE;exact⟨k,PySem.W.mg_of X G e⟩
 have g_DEEPEST_HEADING:∃t,mg "DEEPEST_HEADING"=some (.int 3 t):=by obtain⟨v,e,k,rfl⟩:=t.g_DEEPEST_HEADING;exact⟨k,PySem.W.mg_of X G e⟩
 have g_NAME_END:∃t,mg "NAME_END"=some (.str (S [93,58,32]) t):=by obtain⟨v,e,k,rfl⟩:=t.g_NAME_END;exact⟨k,PySem.W.mg_of X G e⟩
 have g_ESCAPED:∃t,mg "ESCAPED"=some (.str (S escC) t):=by obtain⟨v,e,k,rfl⟩:=t.g_ESCAPED;exact⟨k,PySem.W.mg_of X G e⟩
 have c_BadName:=PySem.W.mg_of X G L.c_BadName
 have c_Plain:=PySem.W.mg_of X G L.c_Plain
 have c_Code:=PySem.W.mg_of X G L.c_Code
 have c_Strong:=PySem.W.mg_of X G L.c_Strong
 have c_Link:=PySem.W.mg_of X G L.c_Link
 have c_Mark:=PySem.W.mg_of X G L.c_Mark
 have c_Heading:=PySem.W.mg_of X G L.c_Heading
 have c_Para:=PySem.W.mg_of X G L.c_Para
 have c_Literal:=PySem.W.mg_of X G L.c_Literal
 have c_Quote:=PySem.W.mg_of X G L.c_Quote
 have c_Naming:=PySem.W.mg_of X G L.c_Naming
 have c_Noting:=PySem.W.mg_of X G L.c_Noting
 have c_Entry:=PySem.W.mg_of X G L.c_Entry
 have c_Listing:=PySem.W.mg_of X G L.c_Listing
 have c_Table:=PySem.W.mg_of X G L.c_Table
 have T : TxP K mg cp z.BadName := {
  n_list:=n_list
  n_len:=n_len
  n_isinstance:=n_isinstance
  n_all:=n_all
  n_str:=n_str
  n_tuple:=n_tuple
  g_NAME_SIGNS:=g_NAME_SIGNS
  g_LONGEST_NAME:=g_LONGEST_NAME
  c_BadName:=c_BadName
  x_BadName:=L.x_BadName
  c_Plain:=c_Plain
  o_Plain:=L.p_Plain.inst
  o_Code:=L.p_Code.inst
  o_Strong:=L.p_Strong.inst
  o_Link:=L.p_Link.inst
  o_Mark:=L.p_Mark.inst
  a_Plain:=L.n_Plain_signs
  a_Code:=L.n_Code_signs
  a_Strong:=L.n_Strong_parts
  a_Linkw:=L.n_Link_words
  a_Linkn:=L.n_Link_name
  a_Mark:=L.n_Mark_name
  i_Plain:=L.j_Plain_Plain
  i_Code:=L.j_Code_Plain
  i_Strong:=L.j_Strong_Plain
  i_Link:=L.j_Link_Plain
  i_Mark:=L.j_Mark_Plain
 }
 have TR:TxR K mg cp z.BadName:={ T with g_ESCAPED:=g_ESCAPED,c_Mark:=c_Mark,m_Plain:=L.j_Plain_Mark,m_Code:=L.j_Code_Mark,m_Strong:=L.j_Strong_Mark,m_Link:=L.j_Link_Mark,m_Mark:=L.j_Mark_Mark }
 have TB:TxB K mg c z.BadName:={ TR with g_FENCE:=g_FENCE,n_enumerate:=n_enumerate,o_Heading:=L.p_Heading.inst,o_Para:=L.p_Para.inst,o_Literal:=L.p_Literal.inst,o_Quote:=L.p_Quote.inst,o_Naming:=L.p_Naming.inst,o_Noting:=L.p_Noting.inst,o_Entry:=L.p_Entry.inst,o_Listing:=L.p_Listing.inst,o_Table:=L.p_Table.inst,a_Heading_level:=L.n_Heading_level,a_Heading_parts:=L.n_Heading_parts,a_Para_parts:=L.n_Para_parts,a_Literal_lines:=L.n_Literal_lines,a_Quote_blocks:=L.n_Quote_blocks,a_Naming_name:=L.n_Naming_name,a_Naming_target:=L.n_Naming_target,a_Noting_name:=L.n_Noting_name,a_Noting_parts:=L.n_Noting_parts,a_Entry_sign:=L.n_Entry_sign,a_Entry_parts:=L.n_Entry_parts,a_Entry_entries:=L.n_Entry_entries,a_Listing_entries:=L.n_Listing_entries,a_Table_head:=L.n_Table_head,a_Table_sides:=L.n_Table_sides,a_Table_lines:=L.n_Table_lines }
 have TX:Tx mg:=⟨n_len,n_range,n_isinstance,n_all,n_str,n_bool,n_tuple,n_enumerate,n_int,n_list,g_NAME_SIGNS,g_LONGEST_NAME,g_FENCE,g_DEEPEST_HEADING,g_NAME_END⟩
 have TD:TxD mg:=⟨n_len,n_range,n_int⟩
 have TE:TxE mg:={ TD with n_isinstance:=n_isinstance,n_tuple:=n_tuple,n_list:=n_list,n_bool:=n_bool,n_zip:=n_zip,n_all:=n_all }
 obtain⟨f,oc,od,kV,dc,pm,an,cd,ct,sl,a,l,cc,kp⟩:=t.f_law.ex
 have e:=hfa.symm.trans (PySem.W.mg_of X G a)
 cases e
 refine⟨PySem.W.fnOf "law" "law" (bT fO) (bB fO) (ad fO) .none kV dc pm an cd ct,λs v => .of_eq rfl,λbase _ _=>?_⟩
 have D_own_cells:Def P w K mg base 1 "own_cells" ["cells"] spOwn:=aj X G t.f_own_cells (λ_ _ _ _ _ _=>b1 λ_=>rfl) λf fd F=>ok_own F TB
 have D_Plain:New P w K mg base 1 "Plain" cp.Plain p10 (cN cp.Plain "signs"):=cy c_Plain L.p_Plain.mkc L.p_Plain.kc L.m_Plain_Init (λ_ _ _ _ _ _=>b2 λ_ _=>rfl) λf fd F=>j7 F T
 have D_Code:New P w K mg base 1 "Code" cp.Code p10 (cN cp.Code "signs"):=cy c_Code L.p_Code.mkc L.p_Code.kc L.m_Code_Init (λ_ _ _ _ _ _=>b2 λ_ _=>rfl) λf fd F=>lu F T
 have D_Strong:New P w K mg base 1 "Strong" cp.Strong p11 (lm cp.Strong):=cy c_Strong L.p_Strong.mkc L.p_Strong.kc L.m_Strong_Init (λ_ _ _ _ _ _=>b2 λ_ _=>rfl) λf fd F=>i3 F T
 have D_Link:New P w K mg base 1 "Link" cp.Link p26 (fE cp.Link "words" "name"):=cy c_Link L.p_Link.mkc L.p_Link.kc L.m_Link_Init (λ_ _ _ _ _ _=>b3 λ_ _ _=>rfl) λf fd F=>lx F T
 have D_Mark:New P w K mg base 1 "Mark" cp.Mark p27 (cN cp.Mark "name"):=cy c_Mark L.p_Mark.mkc L.p_Mark.kc L.m_Mark_Init (λ_ _ _ _ _ _=>b2 λ_ _=>rfl) λf fd F=>lw F T
 have D_Heading:New P w K mg base 1 "Heading" c.Heading p28 (dH c.Heading "level" "parts"):=cy c_Heading L.p_Heading.mkc L.p_Heading.kc L.m_Heading_Init (λ_ _ _ _ _ _=>b3 λ_ _ _=>rfl) λf fd F=>ic F TB
 have D_Para:New P w K mg base 1 "Para" c.Para p11 (bV c.Para "parts"):=cy c_Para L.p_Para.mkc L.p_Para.kc L.m_Para_Init (λ_ _ _ _ _ _=>b2 λ_ _=>rfl) λf fd F=>lK F TB
 have D_Literal:New P w K mg base 1 "Literal" c.Literal p17 (bV c.Literal "lines"):=cy c_Literal L.p_Literal.mkc L.p_Literal.kc L.m_Literal_Init (λ_ _ _ _ _ _=>b2 λ_ _=>rfl) λf fd F=>ia F TB
 have D_Quote:New P w K mg base 1 "Quote" c.Quote p31 (bV c.Quote "blocks"):=cy c_Quote L.p_Quote.mkc L.p_Quote.kc L.m_Quote_Init (λ_ _ _ _ _ _=>b2 λ_ _=>rfl) λf fd F=>kl F TB
 have D_Naming:New P w K mg base 1 "Naming" c.Naming p30 (fE c.Naming "name" "target"):=cy c_Naming L.p_Naming.mkc L.p_Naming.kc L.m_Naming_Init (λ_ _ _ _ _ _=>b3 λ_ _ _=>rfl) λf fd F=>jb F TB
 have D_Noting:New P w K mg base 1 "Noting" c.Noting p29 (dH c.Noting "name" "parts"):=cy c_Noting L.p_Noting.mkc L.p_Noting.kc L.m_Noting_Init (λ_ _ _ _ _ _=>b3 λ_ _ _=>rfl) λf fd F=>ja F TB
 have D_Entry:New P w K mg base 1 "Entry" c.Entry p33 (lG c.Entry):=cy c_Entry L.p_Entry.mkc L.p_Entry.kc L.m_Entry_Init (λ_ _ _ _ _ _=>b4 λ_ _ _ _=>rfl) λf fd F=>km F TB
 have D_Listing:New P w K mg base 1 "Listing" c.Listing p32 (bV c.Listing "entries"):=cy c_Listing L.p_Listing.mkc L.p_Listing.kc L.m_Listing_Init (λ_ _ _ _ _ _=>b2 λ_ _=>rfl) λf fd F=>ib F TB
 have D_Table:New P w K mg base 2 "Table" c.Table p34 (lL c.Table):=cy c_Table L.p_Table.mkc L.p_Table.kc L.m_Table_Init (λ_ _ _ _ _ _=>b4 λ_ _ _ _=>rfl) λf fd F=>kn F TB D_own_cells
 have V_Plain:MethV P w K mg base 1 cp.Plain "told" ["self"] (dU cp λp=>∃s,p = .one (.plain s)):=aM L.p_Plain.cls L.m_Plain_Told (λ_ _ _ _ _ _=>b1 λ_=>rfl) λf fd F=>j8 F T
 have V_Code:MethV P w K mg base 1 cp.Code "told" ["self"] (dU cp λp=>∃s,p = .one (.code s)):=aM L.p_Code.cls L.m_Code_Told (λ_ _ _ _ _ _=>b1 λ_=>rfl) λf fd F=>ly F T
 have V_Mark:MethV P w K mg base 1 cp.Mark "told" ["self"] (dU cp λp=>∃s,p = .one (.note s)):=aM L.p_Mark.cls L.m_Mark_Told (λ_ _ _ _ _ _=>b1 λ_=>rfl) λf fd F=>lz F T
 have V_Link:MethV P w K mg base 1 cp.Link "told" ["self"] (dU cp λp=>∃s n,p = .one (.link s n)):=aM L.p_Link.cls L.m_Link_Told (λ_ _ _ _ _ _=>b1 λ_=>rfl) λf fd F=>lA F T
 have W1:∀{k:Nat},1<=k->∀(p:P1) H a,PCAt cp H a (.one p)->∃C dx fs sp,H a=some (.ins C dx fs)/\fs.lookup ("told":Str)=none/\MethV P w K mg base k C "told" ["self"] sp/\∀Q E,(∀v H',Same H H'->Dn (dif H H') v (dP (.one p))->Q v H')->sp [.ref a] H Q E:=λ{k} hk p H a h=>by
  cases p with
  |plain s=>
   obtain⟨_,dx,e⟩:=id h
   exact⟨_,dx,_,_,e,rfl,V_Plain.mono hk,λQ E g=>⟨a,_,rfl,h,⟨s,rfl⟩,g⟩⟩
  |code s=>
   obtain⟨_,dx,e⟩:=id h
   exact⟨_,dx,_,_,e,rfl,V_Code.mono hk,λQ E g=>⟨a,_,rfl,h,⟨s,rfl⟩,g⟩⟩
  |link s n=>
   obtain⟨_,_,dx,e⟩:=id h
   exact⟨_,dx,_,_,e,rfl,V_Link.mono hk,λQ E g=>⟨a,_,rfl,h,⟨s,n,rfl⟩,g⟩⟩
  |note s=>
   obtain⟨_,dx,e⟩:=id h
   exact⟨_,dx,_,_,e,rfl,V_Mark.mono hk,λQ E g=>⟨a,_,rfl,h,⟨s,rfl⟩,g⟩⟩
 have M1:ToldV P w K mg base 1 cp R1:=λp hp H a h=>by
  cases p with
  |one p=>exact W1 (l7 1) p H a h
  |strong ps=>exact absurd hp (by unfold R1;simp[one?])
 have D_told1:Def P w K mg base 2 "told_parts" ["parts"] (cM cp R1):=aj X G t.f_told_parts (λ_ _ _ _ _ _=>b1 λ_=>rfl) λf fd F=>mG F M1
 have V_Strong:MethV P w K mg base 3 cp.Strong "told" ["self"] (dU cp λp=>∃ps,p = .strong ps/\ps.length<=100000):=aM L.p_Strong.cls L.m_Strong_Told (λ_ _ _ _ _ _=>b1 λ_=>rfl) λf fd F=>i4 F T D_told1
 have M2:ToldV P w K mg base 3 cp R2:=λp hp H a h=>by
  cases p with
  |one p=>exact W1 (by decide) p H a h
  |strong ps=>
   obtain⟨dx,l,as,e,_⟩:=id h
   exact⟨_,dx,_,_,e,rfl,V_Strong,λQ E g=>⟨a,_,rfl,h,⟨ps,rfl,hp⟩,g⟩⟩
 have D_told_parts:Def P w K mg base 4 "told_parts" ["parts"] (cM cp R2):=aj X G t.f_told_parts (λ_ _ _ _ _ _=>b1 λ_=>rfl) λf fd F=>mG F M2
 have D_escaped:Def P w K mg base 1 "escaped" ["signs"] dg:=aj X G t.f_escaped (λ_ _ _ _ _ _=>b1 λ_=>rfl) λf fd F=>nX F TR
 have R_Plain:MethV P w K mg base 2 cp.Plain "raw" ["self"] (h8 cp λp=>∃s,p = .one (.plain s)):=aM L.p_Plain.cls L.m_Plain_Raw (λ_ _ _ _ _ _=>b1 λ_=>rfl) λf fd F=>lD F TR D_escaped
 have R_Code:MethV P w K mg base 2 cp.Code "raw" ["self"] (h8 cp λp=>∃s,p = .one (.code s)):=aM L.p_Code.cls L.m_Code_Raw (λ_ _ _ _ _ _=>b1 λ_=>rfl) λf fd F=>nZ F TR
 have R_Mark:MethV P w K mg base 2 cp.Mark "raw" ["self"] (h8 cp λp=>∃s,p = .one (.note s)):=aM L.p_Mark.cls L.m_Mark_Raw (λ_ _ _ _ _ _=>b1 λ_=>rfl) λf fd F=>oa F TR
 have R_Link:MethV P w K mg base 2 cp.Link "raw" ["self"] (h8 cp λp=>∃s n,p = .one (.link s n)):=aM L.p_Link.cls L.m_Link_Raw (λ_ _ _ _ _ _=>b1 λ_=>rfl) λf fd F=>og F TR D_escaped
 have W3:∀{k:Nat},2<=k->∀(p:P1),(rawP (.one p)).length<=100000->∀H a,PCAt cp H a (.one p)->∃C dx fs sp,H a=some (.ins C dx fs)/\fs.lookup ("raw":Str)=none/\MethV P w K mg base k C "raw" ["self"] sp/\∀Q E,(∀H',Same H H'->Q (vS (rawP (.one p))) H')->sp [.ref a] H Q E:=λ{k} hk p hz H a h=>by
  cases p with
  |plain s=>
   obtain⟨_,dx,e⟩:=id h
   exact⟨_,dx,_,_,e,rfl,R_Plain.mono hk,λQ E g=>⟨a,_,rfl,h,⟨s,rfl⟩,hz,g⟩⟩
  |code s=>
   obtain⟨_,dx,e⟩:=id h
   exact⟨_,dx,_,_,e,rfl,R_Code.mono hk,λQ E g=>⟨a,_,rfl,h,⟨s,rfl⟩,hz,g⟩⟩
  |link s n=>
   obtain⟨_,_,dx,e⟩:=id h
   exact⟨_,dx,_,_,e,rfl,R_Link.mono hk,λQ E g=>⟨a,_,rfl,h,⟨s,n,rfl⟩,hz,g⟩⟩
  |note s=>
   obtain⟨_,dx,e⟩:=id h
   exact⟨_,dx,_,_,e,rfl,R_Mark.mono hk,λQ E g=>⟨a,_,rfl,h,⟨s,rfl⟩,hz,g⟩⟩
 have RN1:RawV P w K mg base 2 cp R1:=λp hp hz H a h=>by
  cases p with
  |one p=>exact W3 (l7 2) p hz H a h
  |strong ps=>exact absurd hp (by unfold R1;simp[one?])
 have D_raw1:Def P w K mg base 3 "raw_of" ["parts"] (eY cp R1):=aj X G t.f_raw_of (λ_ _ _ _ _ _=>b1 λ_=>rfl) λf fd F=>mM F TR RN1
 have R_Strong:MethV P w K mg base 4 cp.Strong "raw" ["self"] (h8 cp λp=>∃ps,p = .strong ps/\ps.length<=100000):=aM L.p_Strong.cls L.m_Strong_Raw (λ_ _ _ _ _ _=>b1 λ_=>rfl) λf fd F=>j9 F TR D_raw1
 have RN2:RawV P w K mg base 4 cp R2:=λp hp hz H a h=>by
  cases p with
  |one p=>exact W3 (by decide) p hz H a h
  |strong ps=>
   obtain⟨dx,l,as,e,_⟩:=id h
   exact⟨_,dx,_,_,e,rfl,R_Strong,λQ E g=>⟨a,_,rfl,h,⟨ps,rfl,hp⟩,hz,g⟩⟩
 have D_raw_of:Def P w K mg base 5 "raw_of" ["parts"] (eY cp R2):=aj X G t.f_raw_of (λ_ _ _ _ _ _=>b1 λ_=>rfl) λf fd F=>mM F TR RN2
 have D_is_parting_bar:Def P w K mg base 1 "is_parting_bar" p19 spBar:=aj X G t.f_is_parting_bar (λ_ _ _ _ _ _=>b2 λ_ _=>rfl) λf fd F=>ok_bar F
 have D_words_of:Def P w K mg base 1 "words_of" ["text"] iS:=aj X G t.f_words_of (λ_ _ _ _ _ _=>b1 λ_=>rfl) λf fd F=>ok_words F
 have D_tidy:Def P w K mg base 2 "tidy" ["text"] jV:=aj X G t.f_tidy (λ_ _ _ _ _ _=>b1 λ_=>rfl) λf fd F=>ok_tidy F D_words_of
 have D_split_cells:Def P w K mg base 3 "split_cells" ["text"] Lw.spCells:=aj X G t.f_split_cells (λ_ _ _ _ _ _=>b1 λ_=>rfl) λf fd F=>ok_cells F TX D_is_parting_bar D_tidy
 have D_is_name:Def P w K mg base 1 "is_name" ["thing"] mC:=aj X G t.f_is_name (λ_ _ _ _ _ _=>b1 λ_=>rfl) λf fd F=>ok_name F TX
 have D_name_of:Def P w K mg base 2 "name_of" ["thing"] iT:=aj X G t.f_name_of (λ_ _ _ _ _ _=>b1 λ_=>rfl) λf fd F=>pU F TX D_is_name
 have D_rest_of_quote:Def P w K mg base 1 "rest_of_quote" ["row"] pA:=aj X G t.f_rest_of_quote (λ_ _ _ _ _ _=>b1 λ_=>rfl) λf fd F=>ok_rest F
 have D_heading_level:Def P w K mg base 1 "heading_level" ["bare"] pB:=aj X G t.f_heading_level (λ_ _ _ _ _ _=>b1 λ_=>rfl) λf fd F=>ok_head F TX
 have D_is_cells:Def P w K mg base 2 "is_cells" ["bare"] spIsC:=aj X G t.f_is_cells (λ_ _ _ _ _ _=>b1 λ_=>rfl) λf fd F=>ok_isC F TX D_is_parting_bar
 have D_definition_of:Def P w K mg base 3 "definition_of" ["bare"] (spDef K):=aj X G t.f_definition_of (λ_ _ _ _ _ _=>b1 λ_=>rfl) λf fd F=>ok_def F TX D_words_of D_is_name D_name_of
 have D_item_or_plain:Def P w K mg base 3 "item_or_plain" ["bare"] (pD K):=aj X G t.f_item_or_plain (λ_ _ _ _ _ _=>b1 λ_=>rfl) λf fd F=>ok_item F TX D_tidy
 have D_sort_of:Def P w K mg base 4 "sort_of" ["row"] (mE K):=aj X G t.f_sort_of (λ_ _ _ _ _ _=>b1 λ_=>rfl) λf fd F=>ok_sort F TX D_tidy D_rest_of_quote D_heading_level D_is_cells D_split_cells D_definition_of D_item_or_plain
 have D_cell_text:Def P w K mg base 1 "cell_text" ["text"] fG:=aj X G t.f_cell_text (λ_ _ _ _ _ _=>b1 λ_=>rfl) λf fd F=>lF F
 have D_is_rule:Def P w K mg base 1 "is_rule" ["text"] pW:=aj X G t.f_is_rule (λ_ _ _ _ _ _=>b1 λ_=>rfl) λf fd F=>ok_rule F
 have D_quoted:Def P w K mg base 1 "quoted" ["row"] spQu:=aj X G t.f_quoted (λ_ _ _ _ _ _=>b1 λ_=>rfl) λf fd F=>qh F
 have D_barred:Def P w K mg base 1 "barred" ["texts"] mT:=aj X G t.f_barred (λ_ _ _ _ _ _=>b1 λ_=>rfl) λf fd F=>ql F
 have D_written_cell:Def P w K mg base 6 "written_cell" ["parts"] (spWC c):=aj X G t.f_written_cell (λ_ _ _ _ _ _=>b1 λ_=>rfl) λf fd F=>ok_wc F D_raw_of D_cell_text D_is_rule
 have D_cells_row:Def P w K mg base 7 "cells_row" ["cells"] (spCR c):=aj X G t.f_cells_row (λ_ _ _ _ _ _=>b1 λ_=>rfl) λf fd F=>ok_cr F D_barred D_written_cell
 have D_sides_row:Def P w K mg base 2 "sides_row" ["sides"] spSR:=aj X G t.f_sides_row (λ_ _ _ _ _ _=>b1 λ_=>rfl) λf fd F=>ok_sr F D_barred
 have D_told_cells:Def P w K mg base 5 "told_cells" ["cells"] (spTC c):=aj X G t.f_told_cells (λ_ _ _ _ _ _=>b1 λ_=>rfl) λf fd F=>ok_toldC F D_told_parts
 have I_te:∀n:Nat,Def P w K mg base (2+6 * n) "told_entries" ["entries"] (spTEs c n):=λn=>by
  induction n with
  |zero=>exact aj X G t.f_told_entries (λ_ _ _ _ _ _=>b1 λ_=>rfl) λf fd F=>kr F (k:=1) (λz=>nomatch z)
  |succ n ih=>
   have V:=aM (P:=P) (w:=w) (mg:=mg) (base:=base) L.p_Entry.cls L.m_Entry_Told (λ_ _ _ _ _ _=>b1 λ_=>rfl) λf fd F=>kt F TB D_told_parts ih
   have M:MV P w K mg base (2+6 * n+5) "told" (EAt c (n+1)) (OkE (n+1)) (gN (dE (n+1))):=λb hb H a h=>by
    obtain⟨dx,l,m,e,_⟩:=id h
    exact⟨_,dx,_,_,e,rfl,V,λQ E g=>⟨a,b,rfl,h,hb,λv H' s d=>g v H' ⟨s,d⟩⟩⟩
   exact aj X G t.f_told_entries (λ_ _ _ _ _ _=>b1 λ_=>rfl) λf fd F=>kr F M
 have D_es0:Def P w K mg base 1 "entry_rows" p20 spNo:=aj X G t.f_entry_rows (λ_ _ _ _ _ _=>b2 λ_ _=>rfl) λf fd F=>fR
 have I_es:∀n:Nat,Def P w K mg base (7+6 * n) "entry_rows" p20 (spES c n):=λn=>by
  induction n with
  |zero=>exact aj X G t.f_entry_rows (λ_ _ _ _ _ _=>b2 λ_ _=>rfl) λf fd F=>ok_es 0 F TB D_raw_of D_es0 trivial
  |succ n ih=>
   exact aj X G t.f_entry_rows (λ_ _ _ _ _ _=>b2 λ_ _=>rfl) λf fd F=>ok_es (n+1) F TB D_raw_of ih λ_ _ _ _ h=>h
 have TS:∀{β:Type} (R:Hp->Addr->β->Prop) (fB:β->PyData) (ok:β->Prop) (k:Nat),MoR R->39<=k->MV P w K mg base k "told" R ok (gN fB)->MV P w K mg base (k+1) "told" (BAtF c R) (OkBF ok) (gN (dBF fB)):=λ{β} R fB ok k mR hk hM b hb H a h=>by
  cases b with
  |heading n ps=>
   obtain⟨dx,l,e,_⟩:=id h
   exact⟨_,dx,_,_,e,rfl,(aM (P:=P) (w:=w) (mg:=mg) (base:=base) L.p_Heading.cls L.m_Heading_Told (λ_ _ _ _ _ _=>b1 λ_=>rfl) λf fd F=>ig (R:=R) (fB:=fB) (ok:=ok) F TB D_told_parts).mono (by omega),λQ E g=>⟨a,_,rfl,h,⟨n,ps,rfl⟩,hb,λv H' s d=>g v H' ⟨s,d⟩⟩⟩
  |para ps=>
   obtain⟨dx,l,e,_⟩:=id h
   exact⟨_,dx,_,_,e,rfl,(aM (P:=P) (w:=w) (mg:=mg) (base:=base) L.p_Para.cls L.m_Para_Told (λ_ _ _ _ _ _=>b1 λ_=>rfl) λf fd F=>lP (R:=R) (fB:=fB) (ok:=ok) F TB D_told_parts).mono (by omega),λQ E g=>⟨a,_,rfl,h,⟨ps,rfl⟩,hb,λv H' s d=>g v H' ⟨s,d⟩⟩⟩
  |lst es=>
   obtain⟨dx,l,e,_⟩:=id h
   exact⟨_,dx,_,_,e,rfl,(aM (P:=P) (w:=w) (mg:=mg) (base:=base) L.p_Listing.cls L.m_Listing_Told (λ_ _ _ _ _ _=>b1 λ_=>rfl) λf fd F=>ij (R:=R) (fB:=fB) (ok:=ok) F TB (I_te 6)).mono (by omega),λQ E g=>⟨a,_,rfl,h,⟨es,rfl⟩,hb,λv H' s d=>g v H' ⟨s,d⟩⟩⟩
  |table hd sd ls=>
   obtain⟨dx,l1,l2,l3,e,_⟩:=id h
   exact⟨_,dx,_,_,e,rfl,(aM (P:=P) (w:=w) (mg:=mg) (base:=base) L.p_Table.cls L.m_Table_Told (λ_ _ _ _ _ _=>b1 λ_=>rfl) λf fd F=>kv (R:=R) (fB:=fB) (ok:=ok) F TB D_told_cells).mono (by omega),λQ E g=>⟨a,_,rfl,h,⟨hd,sd,ls,rfl⟩,hb,λv H' s d=>g v H' ⟨s,d⟩⟩⟩
  |lit ls=>
   obtain⟨dx,l,e,_⟩:=id h
   exact⟨_,dx,_,_,e,rfl,(aM (P:=P) (w:=w) (mg:=mg) (base:=base) L.p_Literal.cls L.m_Literal_Told (λ_ _ _ _ _ _=>b1 λ_=>rfl) λf fd F=>ii (R:=R) (fB:=fB) (ok:=ok) F TB).mono (by omega),λQ E g=>⟨a,_,rfl,h,⟨ls,rfl⟩,hb,λv H' s d=>g v H' ⟨s,d⟩⟩⟩
  |quote bs=>
   obtain⟨dx,l,e,_⟩:=id h
   exact⟨_,dx,_,_,e,rfl,(aM (P:=P) (w:=w) (mg:=mg) (base:=base) L.p_Quote.cls L.m_Quote_Told (λ_ _ _ _ _ _=>b1 λ_=>rfl) λf fd F=>ku F TB hM mR).mono (by omega),λQ E g=>⟨a,_,rfl,h,⟨bs,rfl⟩,hb,λv H' s d=>g v H' ⟨s,d⟩⟩⟩
  |name n t=>
   obtain⟨dx,e⟩:=id h
   exact⟨_,dx,_,_,e,rfl,(aM (P:=P) (w:=w) (mg:=mg) (base:=base) L.p_Naming.cls L.m_Naming_Told (λ_ _ _ _ _ _=>b1 λ_=>rfl) λf fd F=>jg (R:=R) (fB:=fB) (ok:=ok) F TB).mono (by omega),λQ E g=>⟨a,_,rfl,h,⟨n,t,rfl⟩,hb,λv H' s d=>g v H' ⟨s,d⟩⟩⟩
  |note n ps=>
   obtain⟨dx,l,e,_⟩:=id h
   exact⟨_,dx,_,_,e,rfl,(aM (P:=P) (w:=w) (mg:=mg) (base:=base) L.p_Noting.cls L.m_Noting_Told (λ_ _ _ _ _ _=>b1 λ_=>rfl) λf fd F=>jf (R:=R) (fB:=fB) (ok:=ok) F TB D_told_parts).mono (by omega),λQ E g=>⟨a,_,rfl,h,⟨n,ps,rfl⟩,hb,λv H' s d=>g v H' ⟨s,d⟩⟩⟩
 have WS:∀{β:Type} (R:Hp->Addr->β->Prop) (fr:β->List (List Nat)) (ok:β->Prop) (k:Nat),MoR R->41<=k->MV P w K mg base k "written" R (λb=>ok b/\RowsOk (fr b)) (qe fr)->MV P w K mg base (k+3) "written" (BAtF c R) (λb=>OkBF ok b/\RowsOk (fM aL fr b)) (qe (fM aL fr)):=λ{β} R fr ok k mR hk hM b hb H a h=>by
  have Drb:Def P w K mg base (k+1) "rows_between" ["blocks"] (spRB R fr ok):=aj X G t.f_rows_between (λ_ _ _ _ _ _=>b1 λ_=>rfl) λf fd F=>mV F TB hM mR
  cases b with
  |heading n ps=>
   obtain⟨dx,l,e,_⟩:=id h
   exact⟨_,dx,_,_,e,rfl,(aM (P:=P) (w:=w) (mg:=mg) (base:=base) L.p_Heading.cls L.m_Heading_W (λ_ _ _ _ _ _=>b1 λ_=>rfl) λf fd F=>lS (R:=R) (fr:=fr) (ok:=ok) F TB D_raw_of).mono (by omega),λQ E g=>⟨a,_,rfl,h,⟨n,ps,rfl⟩,hb.1,hb.2,λr H' s n e=>g (.ref r) H' ⟨s,r,rfl,n,e⟩⟩⟩
  |para ps=>
   obtain⟨dx,l,e,_⟩:=id h
   exact⟨_,dx,_,_,e,rfl,(aM (P:=P) (w:=w) (mg:=mg) (base:=base) L.p_Para.cls L.m_Para_W (λ_ _ _ _ _ _=>b1 λ_=>rfl) λf fd F=>ok_ParaW (R:=R) (fr:=fr) (ok:=ok) F TB D_raw_of D_sort_of).mono (by omega),λQ E g=>⟨a,_,rfl,h,⟨ps,rfl⟩,hb.1,hb.2,λr H' s n e=>g (.ref r) H' ⟨s,r,rfl,n,e⟩⟩⟩
  |lst es=>
   obtain⟨dx,l,e,_⟩:=id h
   exact⟨_,dx,_,_,e,rfl,(aM (P:=P) (w:=w) (mg:=mg) (base:=base) L.p_Listing.cls L.m_Listing_W (λ_ _ _ _ _ _=>b1 λ_=>rfl) λf fd F=>lU (R:=R) (fr:=fr) (ok:=ok) F TB (I_es 6)).mono (by omega),λQ E g=>⟨a,_,rfl,h,⟨es,rfl⟩,hb.1,hb.2,λr H' s n e=>g (.ref r) H' ⟨s,r,rfl,n,e⟩⟩⟩
  |table hd sd ls=>
   obtain⟨dx,l1,l2,l3,e,_⟩:=id h
   exact⟨_,dx,_,_,e,rfl,(aM (P:=P) (w:=w) (mg:=mg) (base:=base) L.p_Table.cls L.m_Table_W (λ_ _ _ _ _ _=>b1 λ_=>rfl) λf fd F=>qm (R:=R) (fr:=fr) (ok:=ok) F TB D_cells_row D_sides_row).mono (by omega),λQ E g=>⟨a,_,rfl,h,⟨hd,sd,ls,rfl⟩,hb.1,hb.2,λr H' s n e=>g (.ref r) H' ⟨s,r,rfl,n,e⟩⟩⟩
  |lit ls=>
   obtain⟨dx,l,e,_⟩:=id h
   exact⟨_,dx,_,_,e,rfl,(aM (P:=P) (w:=w) (mg:=mg) (base:=base) L.p_Literal.cls L.m_Literal_W (λ_ _ _ _ _ _=>b1 λ_=>rfl) λf fd F=>lT (R:=R) (fr:=fr) (ok:=ok) F TB).mono (by omega),λQ E g=>⟨a,_,rfl,h,⟨ls,rfl⟩,hb.1,hb.2,λr H' s n e=>g (.ref r) H' ⟨s,r,rfl,n,e⟩⟩⟩
  |quote bs=>
   obtain⟨dx,l,e,_⟩:=id h
   exact⟨_,dx,_,_,e,rfl,(aM (P:=P) (w:=w) (mg:=mg) (base:=base) L.p_Quote.cls L.m_Quote_W (λ_ _ _ _ _ _=>b1 λ_=>rfl) λf fd F=>qj F TB Drb D_quoted mR).mono (by omega),λQ E g=>⟨a,_,rfl,h,⟨bs,rfl⟩,hb.1,hb.2,λr H' s n e=>g (.ref r) H' ⟨s,r,rfl,n,e⟩⟩⟩
  |name n t=>
   obtain⟨dx,e⟩:=id h
   exact⟨_,dx,_,_,e,rfl,(aM (P:=P) (w:=w) (mg:=mg) (base:=base) L.p_Naming.cls L.m_Naming_W (λ_ _ _ _ _ _=>b1 λ_=>rfl) λf fd F=>or (R:=R) (fr:=fr) (ok:=ok) F TB).mono (by omega),λQ E g=>⟨a,_,rfl,h,⟨n,t,rfl⟩,hb.1,hb.2,λr H' s n e=>g (.ref r) H' ⟨s,r,rfl,n,e⟩⟩⟩
  |note n ps=>
   obtain⟨dx,l,e,_⟩:=id h
   exact⟨_,dx,_,_,e,rfl,(aM (P:=P) (w:=w) (mg:=mg) (base:=base) L.p_Noting.cls L.m_Noting_W (λ_ _ _ _ _ _=>b1 λ_=>rfl) λf fd F=>ou (R:=R) (fr:=fr) (ok:=ok) F TB D_raw_of).mono (by omega),λQ E g=>⟨a,_,rfl,h,⟨n,ps,rfl⟩,hb.1,hb.2,λr H' s n e=>g (.ref r) H' ⟨s,r,rfl,n,e⟩⟩⟩
 have MT:∀n:Nat,MV P w K mg base (40+n) "told" (BAt c n) (OkB n) (gN (dB n)):=λn=>by
  induction n with
  |zero=>exact TS (λ_ _ (z:Empty)=>nomatch z) (λz=>nomatch z) (λz=>nomatch z) 39 (λ_ _ _ z=>nomatch z) (by decide) (λz=>nomatch z)
  |succ n ih=>exact TS (BAt c n) (dB n) (OkB n) (40+n) (cJ n) (by omega) ih
 have MW:∀n:Nat,MV P w K mg base (44+3 * n) "written" (BAt c n) (λb=>OkB n b/\RowsOk (cC aL n b)) (qe (cC aL n)):=λn=>by
  induction n with
  |zero=>exact WS (λ_ _ (z:Empty)=>nomatch z) (λz=>nomatch z) (λz=>nomatch z) 41 (λ_ _ _ z=>nomatch z) (by decide) (λz=>nomatch z)
  |succ n ih=>exact WS (BAt c n) (cC aL n) (OkB n) (44+3 * n) (cJ n) (by omega) ih
 have D_rows_between:Def P w K mg base 57 "rows_between" ["blocks"] (spRB (BAt c 4) (cC aL 4) (OkB 4)):=aj X G t.f_rows_between (λ_ _ _ _ _ _=>b1 λ_=>rfl) λf fd F=>mV F TB (MW 4) (cJ 4)
 have D_l_draw:Def P w K mg base 1 "_law_draw" p8 (bG K):=aj X G t.f__law_draw (λ_ _ _ _ _ _=>b3 λ_ _ _=>rfl) λf fd F=>ok_draw F TD
 have D_l_text:Def P w K mg base 2 "_law_text" p21 (gR K):=aj X G t.f__law_text (λ_ _ _ _ _ _=>b4 λ_ _ _ _=>rfl) λf fd F=>ok_text F TD D_l_draw
 have D_l_names:Def P w K mg base 2 "_law_names" p12 (lZ K):=aj X G t.f__law_names (λ_ _ _ _ _ _=>b2 λ_ _=>rfl) λf fd F=>ok_names F TD D_l_draw
 have D_some0:Def P w K mg base 1 "_law_some" p18 spNo:=aj X G t.f__law_some (λ_ _ _ _ _ _=>b5 λ_ _ _ _ _=>rfl) λf fd F=>fR
 have D_part1:Def P w K mg base 4 "_law_part" p35 (mX K true):=aj X G t.f__law_part (λ_ _ _ _ _ _=>b5 λ_ _ _ _ _=>rfl) λf fd F=>qr F TD D_l_draw D_l_text D_some0 (λz=>Bool.noConfusion z)
 have D_some1:Def P w K mg base 5 "_law_some" p18 (kz K true):=aj X G t.f__law_some (λ_ _ _ _ _ _=>b5 λ_ _ _ _ _=>rfl) λf fd F=>qu F TD D_part1
 have D_l_part:Def P w K mg base 8 "_law_part" p35 (mX K false):=aj X G t.f__law_part (λ_ _ _ _ _ _=>b5 λ_ _ _ _ _=>rfl) λf fd F=>qr F TD D_l_draw D_l_text D_some1 (λ_ _ _ _ _ h=>h)
 have D_l_some:Def P w K mg base 9 "_law_some" p18 (kz K false):=aj X G t.f__law_some (λ_ _ _ _ _ _=>b5 λ_ _ _ _ _=>rfl) λf fd F=>qu F TD D_l_part
 have D_l_parts:Def P w K mg base 11 "_law_parts" p7 (gV K):=aj X G t.f__law_parts (λ_ _ _ _ _ _=>b3 λ_ _ _=>rfl) λf fd F=>ok_parts F TD D_l_draw D_l_some
 have D_l_cell:Def P w K mg base 13 "_law_cell" p7 (qA K):=aj X G t.f__law_cell (λ_ _ _ _ _ _=>b3 λ_ _ _=>rfl) λf fd F=>ok_cell F TD D_l_draw D_l_parts
 have D_l_cells:Def P w K mg base 15 "_law_cells" p22 (spCells K):=aj X G t.f__law_cells (λ_ _ _ _ _ _=>b4 λ_ _ _ _=>rfl) λf fd F=>qB F TD D_l_cell
 have D_l_table:Def P w K mg base 17 "_law_table" p7 (md K):=aj X G t.f__law_table (λ_ _ _ _ _ _=>b3 λ_ _ _=>rfl) λf fd F=>ok_table F TD D_l_draw D_l_cells
 have D_l_literal:Def P w K mg base 3 "_law_literal" p12 (spLit K):=aj X G t.f__law_literal (λ_ _ _ _ _ _=>b2 λ_ _=>rfl) λf fd F=>ok_lit F TD D_l_draw D_l_text
 have D_ents0:Def P w K mg base 11 "_law_entries" p9 spNo:=aj X G t.f__law_entries (λ_ _ _ _ _ _=>b4 λ_ _ _ _=>rfl) λf fd F=>fR
 have I_en:∀n:Nat,Def P w K mg base (13+2 * n) "_law_entries" p9 (m5 K (n+1)):=λn=>by
  induction n with
  |zero=>exact aj X G t.f__law_entries (λ_ _ _ _ _ _=>b4 λ_ _ _ _=>rfl) λf fd F=>qC (n:=0) F TD D_l_draw D_l_parts D_ents0 (λz=>absurd z (by decide))
  |succ n ih=>
   exact aj X G t.f__law_entries (λ_ _ _ _ _ _=>b4 λ_ _ _ _=>rfl) λf fd F=>qC (m:=13+2 * n) (n:=n+1) F TD D_l_draw (aX D_l_parts (by omega)) ih (λ_ _ _ _ _ h=>h)
 have D_blocks0:Def P w K mg base 23 "_law_blocks" p13 spNo:=aj X G t.f__law_blocks (λ_ _ _ _ _ _=>b5 λ_ _ _ _ _=>rfl) λf fd F=>fR
 have I_bk:∀n:Nat,Def P w K mg base (25+4 * n) "_law_block" p9 (jk K (dB n) (GB n) n (cB n)):=λn=>by
  induction n with
  |zero=>exact aj X G t.f__law_block (λ_ _ _ _ _ _=>b4 λ_ _ _ _=>rfl) λf fd F=>m6 (m:=23) (g:=λz:Empty=>nomatch z) (ok:=λz:Empty=>nomatch z) (rm:=0) (c:=0) (by decide) F TD (by decide) D_l_draw D_l_text (aX D_l_parts (by omega)) (aX (I_en 5) (by omega)) (aX D_l_table (by omega)) D_l_literal D_blocks0 (λz=>absurd z (by decide))
  |succ n ih=>
   have Db:Def P w K mg base (25+4 * n+2) "_law_blocks" p13 (dk K (dB n) (GB n) n (cB n)):=aj X G t.f__law_blocks (λ_ _ _ _ _ _=>b5 λ_ _ _ _ _=>rfl) λf fd F=>kD (kN n) F TD ih
   exact aj X G t.f__law_block (λ_ _ _ _ _ _=>b4 λ_ _ _ _=>rfl) λf fd F=>m6 (m:=25+4 * n+2) (rm:=n+1) (kN n) F TD (by omega) D_l_draw D_l_text (aX D_l_parts (by omega)) (aX (I_en 5) (by omega)) (aX D_l_table (by omega)) D_l_literal Db (λ_ _ _ _ _ h=>h)
 have D_l_blocks:Def P w K mg base 43 "_law_blocks" p13 (dk K (dB 4) (GB 4) 4 (cB 4)):=aj X G t.f__law_blocks (λ_ _ _ _ _ _=>b5 λ_ _ _ _ _=>rfl) λf fd F=>kD (kN 4) F TD (I_bk 4)
 have D_l_back:Def P w K mg base 1 "_law_back" ["_law_text_here"] gW:=aj X G t.f__law_back (λ_ _ _ _ _ _=>b1 λ_=>rfl) λf fd F=>oz F
 have D_lraw0:Def P w K mg base 1 "_law_raw" ["_law_parts_here"] spNo:=aj X G t.f__law_raw (λ_ _ _ _ _ _=>b1 λ_=>rfl) λf fd F=>fR
 have D_lraw1:Def P w K mg base 3 "_law_raw" ["_law_parts_here"] (gX R1):=aj X G t.f__law_raw (λ_ _ _ _ _ _=>b1 λ_=>rfl) λf fd F=>qF F TD D_l_back D_lraw0 (λps h=>absurd h (by unfold R1;simp[one?]))
 have D_l_raw:Def P w K mg base 5 "_law_raw" ["_law_parts_here"] (gX R2):=aj X G t.f__law_raw (λ_ _ _ _ _ _=>b1 λ_=>rfl) λf fd F=>qF F TD D_l_back D_lraw1 (λ_ _ _ _ _ _ h=>h)
 have D_l_is_rule:Def P w K mg base 1 "_law_is_rule" ["_law_text_here"] mf:=aj X G t.f__law_is_rule (λ_ _ _ _ _ _=>b1 λ_=>rfl) λf fd F=>ok_lrule F TD
 have D_l_line:Def P w K mg base 7 "_law_line" ["_law_cells_here"] qJ:=aj X G t.f__law_line (λ_ _ _ _ _ _=>b1 λ_=>rfl) λf fd F=>ok_line F TD D_l_raw D_l_is_rule
 have D_l_table_rows:Def P w K mg base 9 "_law_table_rows" ["_law_block_here"] spTR:=aj X G t.f__law_table_rows (λ_ _ _ _ _ _=>b1 λ_=>rfl) λf fd F=>ok_tr F TD D_l_line
 have D_er0:Def P w K mg base 5 "_law_entry_rows" p23 spNo:=aj X G t.f__law_entry_rows (λ_ _ _ _ _ _=>b2 λ_ _=>rfl) λf fd F=>fR
 have I_er:∀n:Nat,Def P w K mg base (7+2 * n) "_law_entry_rows" p23 (spER n):=λn=>by
  induction n with
  |zero=>exact aj X G t.f__law_entry_rows (λ_ _ _ _ _ _=>b2 λ_ _=>rfl) λf fd F=>ok_er 0 F TD D_l_raw D_er0 trivial
  |succ n ih=>
   exact aj X G t.f__law_entry_rows (λ_ _ _ _ _ _=>b2 λ_ _=>rfl) λf fd F=>ok_er (k:=7+2 * n) (n+1) F TD (aX D_l_raw (by omega)) ih λ_ _ _ _ h=>h
 have D_all0:Def P w K mg base 19 "_law_all_rows" ["_law_blocks_here"] spNo:=aj X G t.f__law_all_rows (λ_ _ _ _ _ _=>b1 λ_=>rfl) λf fd F=>fR
 have I_rw:∀n:Nat,Def P w K mg base (21+4 * n) "_law_rows" ["_law_block_here"] (jn (dB n) (cC aL n) (OkB n)):=λn=>by
  induction n with
  |zero=>exact aj X G t.f__law_rows (λ_ _ _ _ _ _=>b1 λ_=>rfl) λf fd F=>m9 (m:=19) (g:=λz:Empty=>nomatch z) (fr:=λz:Empty=>nomatch z) (ok:=λz:Empty=>nomatch z) F TD (by decide) (aX D_l_raw (by omega)) D_sort_of (aX (I_er 6) (by omega)) (aX D_l_table_rows (by omega)) D_all0 (λz=>nomatch z)
  |succ n ih=>
   have Da:Def P w K mg base (21+4 * n+2) "_law_all_rows" ["_law_blocks_here"] (oA (dB n) (cC aL n) (OkB n)):=aj X G t.f__law_all_rows (λ_ _ _ _ _ _=>b1 λ_=>rfl) λf fd F=>ok_all F TD ih
   exact aj X G t.f__law_rows (λ_ _ _ _ _ _=>b1 λ_=>rfl) λf fd F=>m9 (m:=21+4 * n+2) F TD (by omega) (aX D_l_raw (by omega)) D_sort_of (aX (I_er 6) (by omega)) (aX D_l_table_rows (by omega)) Da (λ_ _ _ _ _ h=>h)
 have D_l_all_rows:Def P w K mg base 39 "_law_all_rows" ["_law_blocks_here"] (oA (dB 4) (cC aL 4) (OkB 4)):=aj X G t.f__law_all_rows (λ_ _ _ _ _ _=>b1 λ_=>rfl) λf fd F=>ok_all F TD (I_rw 4)
 have D_l_kept:Def P w K mg base 1 "_law_kept" p14 iI:=aj X G t.f__law_kept (λ_ _ _ _ _ _=>b2 λ_ _=>rfl) λf fd F=>ok_kept F
 have D_po0:Def P w K mg base 1 "_law_parts_of" p6 spNo:=aj X G t.f__law_parts_of (λ_ _ _ _ _ _=>b2 λ_ _=>rfl) λf fd F=>fR
 have D_pt1:Def P w K mg base 4 "_law_part_of" p6 (na cp R1 0):=aj X G t.f__law_part_of (λ_ _ _ _ _ _=>b2 λ_ _=>rfl) λf fd F=>qK F (by decide) D_Link D_Plain D_Code D_Mark D_Strong D_po0 (λps h=>absurd h (by unfold R1;simp[one?]))
 have D_po1:Def P w K mg base 7 "_law_parts_of" p6 (g8 cp R1 0):=aj X G t.f__law_parts_of (λ_ _ _ _ _ _=>b2 λ_ _=>rfl) λf fd F=>qL F (by decide) D_l_kept D_pt1
 have D_l_part_of:Def P w K mg base 10 "_law_part_of" p6 (na cp R2 1):=aj X G t.f__law_part_of (λ_ _ _ _ _ _=>b2 λ_ _=>rfl) λf fd F=>qK F (by decide) D_Link D_Plain D_Code D_Mark D_Strong D_po1 (λps h=>⟨by decide,h,λ_ _ _ _ x=>x⟩)
 have D_l_parts_of:Def P w K mg base 13 "_law_parts_of" p6 (g8 cp R2 1):=aj X G t.f__law_parts_of (λ_ _ _ _ _ _=>b2 λ_ _=>rfl) λf fd F=>qL F (by decide) D_l_kept D_l_part_of
 have D_l_cells_of:Def P w K mg base 16 "_law_cells_of" p6 (qM cp):=aj X G t.f__law_cells_of (λ_ _ _ _ _ _=>b2 λ_ _=>rfl) λf fd F=>ok_csof F (by decide) D_l_kept D_l_parts_of
 have D_eo0:Def P w K mg base 13 "_law_entries_of" p6 spNo:=aj X G t.f__law_entries_of (λ_ _ _ _ _ _=>b2 λ_ _=>rfl) λf fd F=>fR
 have I_eo:∀n:Nat,Def P w K mg base (16+3 * n) "_law_entries_of" p6 (nc c n):=λn=>by
  induction n with
  |zero=>exact aj X G t.f__law_entries_of (λ_ _ _ _ _ _=>b2 λ_ _=>rfl) λf fd F=>qN 0 F (by decide) D_l_kept D_l_parts_of D_Entry D_eo0 trivial
  |succ n ih=>
   exact aj X G t.f__law_entries_of (λ_ _ _ _ _ _=>b2 λ_ _=>rfl) λf fd F=>qN (k:=16+3 * n) (n+1) F (by omega) D_l_kept (aX D_l_parts_of (by omega)) D_Entry ih λ_ _ _ _ h=>h
 have D_bo0:Def P w K mg base 34 "_law_block_of" p6 spNo:=aj X G t.f__law_block_of (λ_ _ _ _ _ _=>b2 λ_ _=>rfl) λf fd F=>fR
 have I_bo:∀n:Nat,Def P w K mg base (37+3 * n) "_law_block_of" p6 (ng (dB n) (BAt c n) (GB n) (kB n)):=λn=>by
  induction n with
  |zero=>exact aj X G t.f__law_block_of (λ_ _ _ _ _ _=>b2 λ_ _=>rfl) λf fd F=>qP (k:=34) (kc:=0) (g:=λz:Empty=>nomatch z) (R:=λ_ _ (z:Empty)=>nomatch z) (ok:=λz:Empty=>nomatch z) (λ_ _ _ z=>nomatch z) F TB (by decide) D_l_kept (aX D_l_parts_of (by omega)) (aX D_l_cells_of (by omega)) (aX (I_eo 6) (by omega)) D_Naming D_Para D_Noting D_Heading D_Listing D_Literal D_Quote D_Table D_bo0 (λz=>nomatch z)
  |succ n ih=>
   exact aj X G t.f__law_block_of (λ_ _ _ _ _ _=>b2 λ_ _=>rfl) λf fd F=>qP (k:=37+3 * n) (cJ n) F TB (by omega) D_l_kept (aX D_l_parts_of (by omega)) (aX D_l_cells_of (by omega)) (aX (I_eo 6) (by omega)) D_Naming D_Para D_Noting D_Heading D_Listing D_Literal D_Quote D_Table ih (λ_ _ _ _ _ h=>h)
 have D_lo0:Def P w K mg base 1 "_law_longer" ["_law_told"] spNo:=aj X G t.f__law_longer (λ_ _ _ _ _ _=>b1 λ_=>rfl) λf fd F=>fR
 have I_lo:∀n:Nat,Def P w K mg base (3+2 * n) "_law_longer" ["_law_told"] (kM n):=λn=>by
  induction n with
  |zero=>exact aj X G t.f__law_longer (λ_ _ _ _ _ _=>b1 λ_=>rfl) λf fd F=>qV F TE D_lo0 (λj e=>nomatch e)
  |succ n ih=>
   exact aj X G t.f__law_longer (λ_ _ _ _ _ _=>b1 λ_=>rfl) λf fd F=>qV F TE ih (λj e _ _ _ _ h=>by cases e;exact h)
 have D_al0:Def P w K mg base 1 "_law_alike" p15 spNo:=aj X G t.f__law_alike (λ_ _ _ _ _ _=>b2 λ_ _=>rfl) λf fd F=>fR
 have I_al:∀n:Nat,Def P w K mg base (3+2 * n) "_law_alike" p15 (spAl n):=λn=>by
  induction n with
  |zero=>exact aj X G t.f__law_alike (λ_ _ _ _ _ _=>b2 λ_ _=>rfl) λf fd F=>nj F TE D_al0 (λj e=>nomatch e)
  |succ n ih=>
   exact aj X G t.f__law_alike (λ_ _ _ _ _ _=>b2 λ_ _=>rfl) λf fd F=>nj F TE ih (λj e _ _ _ _ h=>by cases e;exact h)
 have D_l_told_right:Def P w K mg base 54 "_law_told_right" p16 (mj c):=aj X G t.f__law_told_right (λ_ _ _ _ _ _=>b3 λ_ _ _=>rfl) λf fd F=>ok_toldR F TE (mv_mono (MT 4) (by decide)) (I_lo 25) (I_al 25)
 have D_l_written_right:Def P w K mg base 57 "_law_written_right" p16 (mj c):=aj X G t.f__law_written_right (λ_ _ _ _ _ _=>b3 λ_ _ _=>rfl) λf fd F=>ok_writR (okL:=OkB 4) (λb h=>h.ok) F TE (MW 4) (aX (I_rw 4) (by decide))
 have D_l_asked:Def P w K mg base 58 "_law_asked" p25 (ml c):=aj X G t.f__law_asked (λ_ _ _ _ _ _=>b4 λ_ _ _ _=>rfl) λf fd F=>ok_asked F (aX D_l_told_right (by decide)) D_l_written_right
 exact ok_law11 (k:=58) (okL:=OkB 4) (okR:=OkB 4) (λb h=>h.ok) (λb h=>h.ok) (kN 4) (by decide) (by decide) (mt (st:=fO) l cc kp) TE (by decide) D_l_draw (aX D_l_names (by decide)) (aX D_l_blocks (by decide)) (aX (I_bo 4) (by decide)) (aX D_rows_between (by decide)) (aX D_l_all_rows (by decide)) D_l_asked (aX (I_al 25) (by decide))
end K11
open PySem PySem.W PySem.W.X PySem.W.ZRun PyProof.Rows
theorem L2.true_law {c:PySem.W.ClaimW}{cl:PySem.Str->Option PySem.Addr}{mean:PySem.ExcName->Option PySem.Value}{args:List PySem.W.WData}{s₁ s':PySem.Shared}(hr:∀cls:PySem.ExcName,c.raises args cls=false)(hp:c.post args (.bool true) args=true)
  (h:OldK s₁.heap s'.heap/\s'.os=s₁.os/\PyProof.Rows.AllBare s'.gens):PySem.W.GoodWG c cl mean args s₁ (Except.ok (PySem.Flow.ret (.bool true))) s':=
 ⟨.inl ⟨_, .bool true,[],rfl,hr, .bool _,hp,λ_=>⟨.nil,λ_ z=>nomatch z⟩⟩,h⟩
set_option maxRecDepth 100000 in
set_option maxHeartbeats 0 in
theorem PySem.Challenge.cw_lightmark_k11_blocks_written_holds : PySem.Challenge.rw_lightmark_k11_blocks_written.Holds := by
 refine hd11.2 ⟨?_⟩
 conv=>whnf
 k_fill
 intro w s₀ s₁ mg mb G y fa o pm cd doc dV kV ho hd hcd hD hmg hg args vals as L hpre hlay hrd hwl hlo
 z_open y L KX ZH ZN ZT
 refine Ground.open G ?_
 intro T B D TE TW
 wrow_args hpre hlay hrd hwl hlo
 rename_i ns _ _ _ _ _ _ _ a vs _ hL _ _ _ hI _ hlen _
 have htk:=script_toks L ZT
 have hobj:=script_obj L hL
 have t:K11.Top (L2.KOf KX):=by
  dsimp only[L2.KOf]
  constructor
  case f_told_parts|f_is_parting_bar|f_words_of|f_tidy|f_split_cells|f_is_name|f_name_of|f_rest_of_quote|f_heading_level|f_is_cells|f_definition_of|f_item_or_plain|f_sort_of|f_cell_text|f_is_rule|f_escaped|f_raw_of|f_own_cells|f_told_entries|f_told_cells|f_quoted|f_rows_between|f_barred|f_written_cell|f_cells_row|f_sides_row|f_entry_rows|f__law_draw|f__law_text|f__law_names|f__law_part|f__law_some|f__law_parts|f__law_cell|f__law_cells|f__law_table|f__law_entries|f__law_literal|f__law_block|f__law_blocks|f__law_back|f__law_raw|f__law_is_rule|f__law_line|f__law_table_rows|f__law_entry_rows|f__law_rows|f__law_all_rows|f__law_kept|f__law_part_of|f__law_parts_of|f__law_cells_of|f__law_entries_of|f__law_block_of|f__law_longer|f__law_alike|f__law_told_right|f__law_written_right|f__law_asked|f_law=>(refine' K11.fnIn_mk ?xa ?xl ?xc ?xk;(case xa|xl|xc|xk=>k_is))
  case n_list|n_len|n_isinstance|n_all|n_str|n_tuple|n_range|n_int|n_enumerate|n_bool|n_zip=>k_is
  case g_NAME_SIGNS|g_LONGEST_NAME|g_FENCE|g_DEEPEST_HEADING|g_NAME_END|g_ESCAPED=>(refine' K11.cst_mk ?xe ?xf;(case xe=>k_is);(case xf=>exact⟨_,rfl⟩))
  case cl=>
   refine' K11.cls_mk ?C1 ?C2 ?C3 ?C4 ?C5 ?C6 ?C7 ?C8 ?C9 ?C10 ?C11 ?C12 ?C13 ?C14 ?C15 ?X1 ?P1 ?N1 ?P2 ?N2 ?P3 ?N3 ?P4 ?N4 ?N5 ?P5 ?N6 ?P6 ?N7 ?N8 ?P7 ?N9 ?P8 ?N10 ?P9 ?N11 ?P10 ?N12 ?N13 ?P11 ?N14 ?N15 ?P12 ?N16 ?N17 ?N18 ?P13 ?N19 ?P14 ?N20 ?N21 ?N22 ?J1 ?J2 ?J3 ?J4 ?J5 ?J6 ?J7 ?J8 ?J9 ?J10 ?M1 ?M2 ?M3 ?M4 ?M5 ?M6 ?M7 ?M8 ?M9 ?M10 ?M11 ?M12 ?M13 ?M14 ?M15 ?M16 ?M17 ?M18 ?M19 ?M20 ?M21 ?M22 ?M23 ?M24 ?M25 ?M26 ?M27 ?M28 ?M29 ?M30 ?M31 ?M32 ?M33 ?M34 ?M35 ?M36 ?M37 ?M38 ?M39 ?M40 ?M41
   case C1|C2|C3|C4|C5|C6|C7|C8|C9|C10|C11|C12|C13|C14|C15=>k_is
   case X1=>(refine' K11.ownx_VE ?yq;(case yq=>k_exc))
   case P1|P2|P3|P4|P5|P6|P7|P8|P9|P10|P11|P12|P13|P14=>(refine' ⟨?z1,?z2,?z3,?z4,?z5,?z6,?z7,?z8,?z9,?z10⟩;(case z1|z2|z3|z4|z5|z6|z7|z8|z9|z10=>k_is))
   case N1|N2|N3|N4|N5|N6|N7|N8|N9|N10|N11|N12|N13|N14|N15|N16|N17|N18|N19|N20|N21|N22=>k_is
   case J1|J2|J3|J4|J5|J6|J7|J8|J9|J10=>kit_is
   case M1|M2|M3|M4|M5|M6|M7|M8|M9|M10|M11|M12|M13|M14|M15|M16|M17|M18|M19|M20|M21|M22|M23|M24|M25|M26|M27|M28|M29|M30|M31|M32|M33|M34|M35|M36|M37|M38|M39|M40|M41=>(refine' K11.mIn_mk ?xa ?xi ?xl ?xc ?xk;(case xa|xi|xl|xc|xk=>k_is))
 obtain⟨fd,hb,hF⟩:=K11.all_law (P:=PySem.Challenge.rw_lightmark_k11_blocks_written.row.prog) (w:=w) KX T.g hmg t
 have hbits:∀n∈ns,PySem.Builtin.Int.intBits n<=1048576:=λn hn=>PySem.intBits_le_of_item hn (by assumption)
 refine wpAny_call (codeAny_mono (L2.law_call KX T.g T.b T.builtins T.nolimit hg (l26 (by decide) htk) hobj hI (Lw.big (by omega)) ⟨rfl,by decide,by decide⟩ hF hb (λH hO hS=>⟨a,ns,rfl,hS,hbits,λ_=>rfl⟩) λH e s' z=>z) λr s' q=>?_)
 obtain⟨rfl,q⟩:=q
 exact L2.true_law (λ_=>rfl) (by with_unfolding_all rfl) q
