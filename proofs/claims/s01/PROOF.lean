import PyProof.Rows.All
import Wide.All
import OpenK.AllK
import Wide.FinOn
import PyProof.EqAt
import PyProof.EqKinds
import PyProof.TupleCall
import KE.BitLaws
import KE.KSortTupG
import Open.SpecLaws
import KE.OsHead
import KE.OsGo
import PySem.Challenge.RW_zonerights_s01_answers
set_option Elab.async false
set_option linter.all false
set_option maxRecDepth 100000
set_option maxHeartbeats 4000000
namespace PySem.W.Fast
def tw17366712176761399841:=0
def tw4874477971379246187:=0
def tw5032000749362138124:=0
def tw16249940264547060343:=0
def tw11097099790789024760:=0
def tw7200342506723568410:=0
def tw7779691866042010568:=0
def tw10145911501122131193:=0
def tw13672429737147511449:=0
def tw9257649027345120042:=0
def tw8976805863788779485:=0
def tw12904470527317922835:=0
def tw5178599723113648520:=0
def tw4080819484961211888:=0
def tw2741396581234335724:=0
def tw988804039754982058:=0
def tw13535166374612915971:=0
def tw1662708435944918133:=0
def tw13698548086425595746:=0
def tw1528794866324876197:=0
def tw17463537546933805061:=0
def tw14158338480750147282:=0
def tw2848765349886227575:=0
def tw9532320968260596287:=0
def tw10365700727682441409:=0
def tw5319278394026259260:=0
def tw17136068877750094272:=0
def tw14055483002744046551:=0
def tw18384703083388513909:=0
def tw3095703567169766375:=0
def tw6374237614020522183:=0
def tw4864915301493708076:=0
def tw2902784369736730589:=0
def tw3195922355351975662:=0
def tw4047550906613021660:=0
def tw10430919639911672370:=0
def tw11427762565815039084:=0
def tw18000166774087257108:=0
def tw5481152689822142943:=0
def tw13015589337422431634:=0
def tw13552529973519479830:=0
def tw17802704309418967196:=0
def tw16286982972204919702:=0
def tw13024492371827389300:=0
def tw17651317114318478711:=0
def tw4719572220386811066:=0
def tw15574398217954365944:=0
def tw16447159180910697832:=0
def tw11387958251443078889:=0
def tw3088184282248456087:=0
def tw10759926240362451752:=0
def tw18149736015625644862:=0
def tw288281120878433443:=0
def tw13316087308727231393:=0
def tw1200343844089417198:=0
def tw17382903767871403979:=0
def tw14260581871355709253:=0
def tw1812467705298226579:=0
def tw1924065395204529159:=0
def tw1549497213491220103:=0
def tw3842301447367924996:=0
def tw6505155837948079141:=0
def tw2212721342388432812:=0
def tw3327399682405258820:=0
def tw16759673802547229259:=0
def tw12595972443286909713:=0
def tw16930148712669845910:=0
def tw11135529546857172316:=0
def tw5496600081571632988:=0
def tw5036433960413503855:=0
def tw17120113467414812005:=0
def tw17178501976702112499:=0
def tw16909910805594975137:=0
def tw10738545142779917920:=0
def tw4826792853853455081:=0
def tw7126407879086023490:=0
def tw1376965962106955509:=0
def tw11316465631244249417:=0
def tw8923927135194542681:=0
def tw18269953277673544478:=0
def tw3782302500277109312:=0
def tw9949560776313397505:=0
def tw8421436436333128786:=0
def tw15701248465615975336:=0
def tw8161160385338226225:=0
def tw5280926501028776416:=0
def tw3874541702923444896:=0
def tw9005852243578762325:=0
def tw3412450282859441230:=0
def tw2914975015978914006:=0
def tw5754893660014367592:=0
def tw4968327244850905488:=0
def tw15798155897817284969:=0
def tw7093523305454651744:=0
def tw7244935185131496592:=0
def tw7925953756749647495:=0
def tw12781806045399250977:=0
def tw10634530759153579808:=0
def tw8835175797929739985:=0
def tw8157677124150567696:=0
def tw1994151226449979896:=0
def tw11273386188355891569:=0
def tw5384016616891086196:=0
def tw7492266638948466260:=0
def tw5286441621428566200:=0
def tw3529068153010528906:=0
def tw4645450819647074341:=0
def tw15561867288328242409:=0
def tw15389447608424332640:=0
def tw4552958025461351246:=0
def tw12220892847789684545:=0
def tw14956248985863960697:=0
def tw12817939457087711592:=0
def tw4029500301819930779:=0
def tw1629673836653372340:=0
def tw17500469755307962589:=0
def tw813231164855586634:=0
def tw663349778109009251:=0
def tw14694997662104568676:=0
def tw4930984745064437867:=0
def tw13806067841490793937:=0
def tw1576107402977386350:=0
def tw3125075902198280964:=0
def tw1135374428930232118:=0
def tw7992878526933302565:=0
def tw6972848811249057883:=0
def tw15517516121740686559:=0
def tw17696516880168596183:=0
def tw6786120253948670818:=0
def tw1375939245353149859:=0
def tw7952877508283243395:=0
def tw1523024245918410602:=0
def tw15041755509050036311:=0
def tw7433470027784763196:=0
def tw2284697868924307138:=0
def tw6530972822842095760:=0
def tw17714702379098182521:=0
def tw17742073849714210282:=0
def tw6122620609388405087:=0
def tw656986965144170890:=0
def tw13854984824735732825:=0
def tw6732549432609282800:=0
def tw11573488130199985783:=0
def tw1854606822885123838:=0
def tw8075093063569610372:=0
def tw12819219763617909811:=0
def tw1339339602475003968:=0
def tw9116868474798500732:=0
def tw18253283103256206538:=0
def tw10652939830364684315:=0
def tw222378160444647655:=0
def tw17225801962232794190:=0
def tw6032129180996646046:=0
def tw7525448063192188463:=0
def tw2687138426000651846:=0
def tw8170838009862096014:=0
def tw181842845374712562:=0
def tw11129313151548875082:=0
def tw5179167484204650208:=0
def tw11468716190060113173:=0
def tw15085020810889491540:=0
def tw14602953818063083324:=0
def tw3560464710550753077:=0
def tw17570251986545659584:=0
def tw1159978871945064342:=0
def tw238091523344832476:=0
def tw4349904134647224051:=0
def tw3395540511324208920:=0
def tw13899187687931329347:=0
def tw17561472916142589256:=0
def tw12786564853156276518:=0
def tw6689098867761264490:=0
def tw11073924630965836406:=0
def tw8952035876256636452:=0
def tw18148855808376484848:=0
def tw17061457794302078327:=0
def tw13676878611320636254:=0
def tw15096986842474419060:=0
def tw1464331615212573953:=0
def tw16463414102529597827:=0
def tw15599236386737015933:=0
def tw6118069783576141578:=0
def tw11463776199516885963:=0
def tw2898308473983305789:=0
def tw14793028916052723121:=0
def tw4239323626128267138:=0
def tw4852112618943179942:=0
def tw2961947772661889851:=0
def tw9757909451587264820:=0
def tw13279608598772119716:=0
def tw9808336276227787623:=0
def tw329914477910904430:=0
def tw7023536776507217392:=0
def tw11554979494270284148:=0
def tw15685378650131769991:=0
def tw1152920243552637685:=0
def tw9384383920742655257:=0
def tw653799029083935273:=0
def tw9118403974798210648:=0
def tw2134901679864756212:=0
def tw1140664894080242991:=0
def tw10388656709452367031:=0
def tw17316523333006722851:=0
def tw8603734076328433361:=0
def tw8306514909577669961:=0
def tw9004110583505571897:=0
def tw3984850214641338133:=0
def tw16838592751869140918:=0
def tw1086341482713557753:=0
def tw9143387858608359179:=0
def tw1133434122605092230:=0
def tw11245651516147242256:=0
def tw15032429741209978139:=0
def tw5657627970481850871:=0
def tw12514280577156460501:=0
def tw16019560749425697459:=0
def tw3262342780719085565:=0
def tw9606442808347320701:=0
def tw12538260828256315764:=0
def tw16829404663342482115:=0
def tw10594427880246915341:=0
def tw8918669662843466027:=0
def tw9500897137043442881:=0
def tw9442691079606131353:=0
def tw10159266703882090890:=0
def tw1280324932395910755:=0
def tw16985528394101501626:=0
def tw3540596420056020268:=0
def tw10820774254399099870:=0
def tw16542371121738012446:=0
def tw18101037526009061555:=0
def tw12557217495672878536:=0
def tw6132192447102223388:=0
def tw9014541740596258430:=0
def tw12257657520425768232:=0
def tw18104132276399991210:=0
def tw10020154298222009194:=0
def tw17812896626413033696:=0
def tw110765779071199576:=0
def tw7004385683243192005:=0
def tw8541470878376803369:=0
def tw10954614290474663944:=0
def tw10615872290149344016:=0
def tw3777669367514011764:=0
def tw12090446474417468198:=0
def tw3799002396664964014:=0
def tw14822571639930935986:=0
def tw14167473656272725854:=0
def tw11294946259861794169:=0
def tw11438642762848235758:=0
def tw4412741314134694446:=0
def tw16017876752969057344:=0
def tw17592575580702048706:=0
def tw15763267818315125979:=0
def tw16119161620381035023:=0
def tw13439034931687865307:=0
def tw13081047546512076579:=0
def tw9951719568875286208:=0
def tw11279956927333722167:=0
def tw3121097272305463431:=0
def tw781944701090364267:=0
def tw3385736281769906533:=0
def tw7711827762466986811:=0
def tw7732302028419214021:=0
def tw3787075848685651674:=0
def tw3427231869756480047:=0
def tw10839705163978857221:=0
def tw8993510363385848825:=0
def tw11895638758033418262:=0
def tw2171173047571088348:=0
def tw10206731745085970624:=0
def tw5865264100511424688:=0
def tw7081574496222101763:=0
def tw3566967075948953368:=0
def tw15002000602546267063:=0
def tw16879697405323008485:=0
def tw15273038481522589428:=0
def tw11535731585384197828:=0
def tw6925291321635293796:=0
def tw11588675893713159147:=0
def tw14225191577165238631:=0
def tw8399675200251641037:=0
def tw4987460479162616049:=0
def tw16149700003549156583:=0
def tw3862889100934102338:=0
def tw11829422934893987697:=0
def tw8612085118910183586:=0
def tw9401637589487576304:=0
def tw10571958193063221179:=0
def tw13229651968647749566:=0
def tw8663668171574805236:=0
def tw7518654724621925556:=0
def tw18062331372323607845:=0
def tw13793379900072159408:=0
def tw16938398250102319098:=0
def tw15979810445775509426:=0
def tw4951361045700656746:=0
def tw4924999556610992035:=0
def tw15741311680178380349:=0
def tw1590270546961630199:=0
def tw986457567082863001:=0
def tw15578949001229534940:=0
def tw10391772419604664609:=0
def tw15838930799303426093:=0
def tw7686799779057335329:=0
def tw1004763874026627239:=0
def tw15159427305308774097:=0
def tw5912619806767062234:=0
def tw12285736614712542695:=0
def tw10939706839894351069:=0
def tw8004456727031799292:=0
def tw17853353943115563211:=0
def tw14556078479970506931:=0
def tw15755238109566610118:=0
def tw7513343604488552501:=0
def tw15243310696134424556:=0
def tw5248851611483606317:=0
def tw17659395519288239327:=0
def tw16088059383958943400:=0
def tw6808226344114528862:=0
def tw6973622911319950040:=0
def tw13352608217236113919:=0
def tw18130378139658002173:=0
def tw4367119674031232062:=0
def tw6835565144320985128:=0
def tw12251128990996804861:=0
def tw13571353346898392196:=0
def tw6722091746004876374:=0
def tw16496901559057966029:=0
def tw17041400223500749232:=0
def tw2434828642858667838:=0
def tw2296409472008332135:=0
def tw12650293063911993637:=0
def tw12303803558418525276:=0
def tw4681067858179312659:=0
def tw4555224973565591126:=0
def tw16046593562466214558:=0
def tw15970328411003641952:=0
def tw14067677614383092797:=0
def tw7215830141457645001:=0
def tw1305877694055691002:=0
def tw17774847262204333207:=0
def tw11032086043224167479:=0
def tw7440607565865013710:=0
def tw6273374577116589217:=0
def tw13115977874563793551:=0
def tw15686910198300675534:=0
def tw11693968656602612244:=0
def tw5322452237794717111:=0
def tw15514848381435760757:=0
def tw382832934819282987:=0
def tw8873038563643436311:=0
def tw7521774387912826344:=0
def tw3101703973151422540:=0
def tw17062406458001801824:=0
def tw3165504887644347635:=0
def tw17716938572774476171:=0
def tw5352225160948950757:=0
def tw16571845023978056661:=0
def tw6743821282257913861:=0
def tw17506466657408614469:=0
def tw15038950447710442198:=0
def tw8052528819249287569:=0
def tw4742366098779298151:=0
def tw16970056515692472941:=0
def tw9008263650248323456:=0
def tw3824001360708095721:=0
def tw5874590078592899121:=0
def tw2266806772147494794:=0
def tw16079130241200171651:=0
def tw1941862190824472047:=0
def tw13997346168862288354:=0
def tw17306817164937235190:=0
def tw18303972891982186173:=0
def tw5152831281488701389:=0
def tw17189566954974237176:=0
def tw8764870595613900098:=0
def tw4828202028280179317:=0
def tw7670580862143031721:=0
def tw2359682129141090052:=0
def tw3987943309879041810:=0
def tw13087002963732307691:=0
def tw18197830867470712177:=0
def tw3533110886861453890:=0
def tw10938326264531371785:=0
def tw9188875614180959188:=0
def tw8245984371885186005:=0
def tw18010440195808447603:=0
def tw3859143263687538275:=0
def tw7707097102379735955:=0
def tw13109125593281255702:=0
def tw6784759125319117932:=0
def tw2853138627112163951:=0
def tw12102761292981094483:=0
def tw17493624632518851439:=0
def tw16119009237701537395:=0
def tw2342211339895293736:=0
def tw3360546476914574928:=0
def tw7220252649248357545:=0
def tw8258138498125869882:=0
def tw6300431137998670230:=0
def tw2474196105176428296:=0
def tw6244476113352588004:=0
def tw5680960024446850815:=0
def tw16979533672175092960:=0
def tw8562008920035656706:=0
def tw3757823326510970499:=0
def tw7588569569609420066:=0
def tw11971257002684274088:=0
def tw7396372471946074607:=0
def tw15822526366650941685:=0
def tw17447598368774303556:=0
def tw2227534608550163034:=0
def tw2238517245838111788:=0
def tw8713211860263067029:=0
def tw12278763930894389224:=0
def tw7208700257364849063:=0
def tw5519912364463848874:=0
def tw2252400932908019732:=0
def tw2277882689202437065:=0
def tw6308029878094039067:=0
def tw5860294263584025692:=0
def tw1112340351466381486:=0
def tw3533181183649541229:=0
def tw17234897303973489963:=0
def tw12540241361593703032:=0
def tw5334454791331208457:=0
def tw10782525055782907187:=0
def tw15059554552801043847:=0
def tw7098992060427312430:=0
def tw17267524962515269937:=0
def tw10334916182532213560:=0
def tw10941512711292242498:=0
def tw18409801604260697657:=0
def tw8424622173033659708:=0
def tw17939358629751093120:=0
def tw10428492662250271949:=0
def tw16204839850201930613:=0
def tw7782407132763213225:=0
def tw13856737622044544865:=0
def tw17598521888585869906:=0
def tw16199362769985140488:=0
def tw8049308350607196829:=0
def tw3163533262999754621:=0
def tw6937430616679158391:=0
def tw1239507735827940558:=0
def tw403821404458878336:=0
def tw16124964018001989844:=0
def tw8264337687146295395:=0
def tw12602846511623022499:=0
def tw3683895990202038607:=0
def tw7398343392002922600:=0
def tw3557724311509489497:=0
def tw1795215977307942337:=0
def tw8641821290624880847:=0
def tw5433074871116686095:=0
def tw15764241172024862936:=0
def tw11280749215575290288:=0
def tw13911452384942907477:=0
def tw7521014569447029556:=0
def tw3495144237814763524:=0
def tw4092741993280664097:=0
def tw9443407553096569134:=0
def tw680357734657635398:=0
def tw8589311448281014579:=0
def tw5659012444850877112:=0
def tw14700571164827588316:=0
def tw5359274120506874223:=0
def tw6697754200574069114:=0
def tw11557063069339212557:=0
def tw12740994900467688030:=0
def tw7087148384957819891:=0
def tw2853486083179327026:=0
def tw9127472216057269091:=0
def tw17304220396535357272:=0
def tw11791221836364859367:=0
def tw15307045672975063099:=0
def tw16654822573191009366:=0
def tw8611298612582746232:=0
def tw971682181093500348:=0
def tw8279132449668727774:=0
def tw13957568838790787686:=0
def tw1999885840422941479:=0
def tw9641448489218164793:=0
def tw8451642378235275705:=0
def tw368122258989338036:=0
def tw3951856154852691199:=0
def tw15917779757488246368:=0
def tw18234428493955313675:=0
def tw11256902621755746605:=0
def tw15736571202253850479:=0
def tw7434856679626054327:=0
def tw1909423764218659525:=0
def tw1818049565003238357:=0
def tw16014295309740130249:=0
def tw12757200842007383530:=0
def tw1178146718206568887:=0
def tw922276256471282856:=0
def tw16425273852666592622:=0
def tw16220125910073382766:=0
def tw13257343300549858574:=0
def tw15740181814961682891:=0
def tw18006628482702650161:=0
def tw13963080076624692630:=0
def tw5271938110768891104:=0
def tw8856471062546466020:=0
def tw2340466063753297698:=0
def tw17723012706018479018:=0
def tw18274856430361295029:=0
def tw1626697966451799477:=0
def tw361955050312183323:=0
def tw17004637313987333456:=0
def tw2091800276963509755:=0
def tw13984691677718895462:=0
def tw4886662226244429953:=0
def tw897810841204735534:=0
def tw6647992354277370697:=0
def tw15324003815837025296:=0
def tw12975079898314115540:=0
def tw5544781422297210206:=0
def tw7859526639549648555:=0
def tw11820741120985644611:=0
def tw4082339080630027669:=0
def tw2217737456143411807:=0
def tw7818530938811169154:=0
def tw9051161597910853016:=0
def tw17808576601880470975:=0
def tw12652957008629996586:=0
def tw10593737666701194912:=0
def tw281591824461413970:=0
def tw10835507380579332766:=0
def tw18136715177917219865:=0
def tw15670563846062008551:=0
def tw11457090959922093310:=0
def tw12608179743925038518:=0
def tw13690862181664604290:=0
def tw7441746461677569871:=0
def tw16615055773674181591:=0
def tw7617525379789355905:=0
def tw12559419453861771013:=0
def tw15008496454295109510:=0
def tw3420493246643958766:=0
def tw11354127406218391829:=0
def tw2520432753855790058:=0
def tw2100996378195346080:=0
def tw5598537041747575510:=0
def tw16797949732916719280:=0
def tw6687714451355455327:=0
def tw11309268557511000265:=0
def tw482973065991346760:=0
def tw10797931779050675540:=0
def tw17974894127817047740:=0
def tw9889586986682673884:=0
def tw12361366019932818816:=0
def tw5573652759019863127:=0
def tw16662947121565074256:=0
def tw16439248110641918973:=0
def tw7051416807176480738:=0
def tw6159850700706702896:=0
def tw209147804235855026:=0
def tw13963212607869218854:=0
def tw14080967975184536233:=0
def tw14683236410439142275:=0
def tw3625264509245996932:=0
def tw15747863075445856581:=0
def tw981580854106245675:=0
def tw11268937043981142677:=0
def tw15252309430007451346:=0
def tw4232045026523559732:=0
def tw12760020477257589713:=0
def tw3699484330645030202:=0
def tw8657883749656794469:=0
def tw9142347639911787349:=0
def tw10456894367077228604:=0
def tw11948165285183806711:=0
def tw14883007801382388507:=0
def tw2258568822448653016:=0
def tw17272046004242935023:=0
def tw5902588373272891906:=0
def tw611832926327259584:=0
def tw14785536290108143107:=0
def tw7189032825523253873:=0
def tw9737554897315833065:=0
def tw17627566433636956524:=0
def tw208845061140054602:=0
def tw8741407813166636000:=0
def tw14233637740963636589:=0
def tw5400397844029189248:=0
def tw4236891194690747539:=0
def tw12434150087816591436:=0
def tw5105537808232598489:=0
def tw756672442123995405:=0
def tw7773914455609029050:=0
def tw8441247056142328485:=0
def tw7507053567406815352:=0
def tw11721172179212961693:=0
def tw14449381168956178008:=0
def tw16389304045735973081:=0
def tw14012753670116423655:=0
def tw7641203853467008312:=0
def tw13334616633023850836:=0
def tw16681006384798593615:=0
def tw6405741257556348905:=0
def tw3298037654569617122:=0
def tw11526585673571087496:=0
def tw17914090522771161862:=0
def tw1946636700660302702:=0
def tw13126916555018428090:=0
def tw4375746697812089649:=0
def tw3119638952450346412:=0
def tw4268723785007831698:=0
def tw2880752983228384945:=0
def tw11615048442039578796:=0
def tw17061878260456699514:=0
def tw7918765441308486419:=0
def tw17306906880832184456:=0
def tw10616478589714023761:=0
def tw13635020250020200741:=0
def tw7897919599682330522:=0
def tw9858507675758836707:=0
def tw2169095922778676261:=0
def tw11495711443382225113:=0
def tw17515815407903680933:=0
def tw15927349164165039462:=0
def tw11464776167893129583:=0
def tw14370046906197175507:=0
def tw579092019310588213:=0
def tw8048500537277363563:=0
def tw2256584812887901053:=0
def tw13382760590038385195:=0
def tw4034111950262845221:=0
def tw495024029433515827:=0
def tw12306123802758501565:=0
def tw1928240802450365986:=0
def tw1818101310243001129:=0
def tw14747534848923396241:=0
def tw8304054513810567240:=0
def tw17387946518296465198:=0
def tw9920036234238352037:=0
def tw17893216328324832646:=0
def tw6504225782092376169:=0
def tw5763720186876441840:=0
def tw16545911691211300824:=0
def tw4882958888747470629:=0
def tw5293812206249622365:=0
def tw9891145627178084422:=0
def tw1992597021143431278:=0
def tw7149978805096625168:=0
def tw12637310433931547181:=0
def tw11938239428445055115:=0
def tw8118065948225597088:=0
def tw12391456156607633127:=0
def tw18416715116335010039:=0
def tw10123399768725862750:=0
def tw7331276061091448676:=0
def tw3577119429886430910:=0
def tw16253495880530397077:=0
def tw9895694610789265698:=0
def tw12625205200362927239:=0
def tw16397719950094200143:=0
def tw793682753065137767:=0
def tw10519999688248684471:=0
def tw10368660521611926019:=0
def tw18128675213464454742:=0
def tw14054356054584924044:=0
def tw4577511921417421254:=0
def tw3170488486630024133:=0
def tw17832228006744061159:=0
def tw134991749251545595:=0
def tw4150625606886316529:=0
def tw17343684545151989044:=0
def tw1639493403010798584:=0
def tw1622992724520247212:=0
def tw7346834637926490834:=0
def tw14822597470698269485:=0
def tw9350560714779392098:=0
def tw1493561946443388599:=0
def tw14975156599572215304:=0
def tw2155454404639725802:=0
def tw4498151042239573267:=0
def tw4185303650822812065:=0
def tw15141580297327546393:=0
def tw5334204379545444934:=0
end PySem.W.Fast
set_option Elab.async false
set_option maxRecDepth 100000
namespace L2
open PySem PySem.Spec PyProof.Rows
abbrev Key:=Sum Int Str
def zhZ:Key→Value→Bool
 | .inl k,v=>Value.isInt k v
 | .inr x,v=>Value.isStrOf x v
def zrZ (w:World):Key→Int
 | .inl k=>hashInt k
 | .inr x=>hashStr w x
theorem zcp:∀{k:Key} {v:Value},zhZ k v=true→(∃i t,k=Sum.inl i∧v=Value.int i t)∨(∃x t,k=Sum.inr x∧v=Value.str x t)
 | .inl i,v,h=>by
  obtain⟨t,e⟩:=Value.isInt_shape (k:=i) (v:=v) h
  exact .inl ⟨i,t,rfl,e⟩
 | .inr x,v,h=>by
  obtain⟨t,e⟩:=Value.isStrOf_shape (x:=x) (v:=v) h
  exact .inr ⟨x,t,rfl,e⟩
theorem zeK (i:Int) (t:Tok):zhZ (.inl i) (.int i t)=true:=by simp [zhZ,Value.isInt]
theorem zb5 (x:Str) (t:Tok):zhZ (.inr x) (.str x t)=true:=by simp [zhZ,Value.isStrOf]
theorem zrc (a b:Int):decide ((Sum.inl a:Key)=Sum.inl b)=(a == b):=by
 by_cases e:a=b
 ·subst e;simp
 ·have h:¬(Sum.inl a:Key)=Sum.inl b:=λq=>e (Sum.inl.inj q)
  rw[decide_eq_false h]
  exact (beq_eq_false_iff_ne.mpr e).symm
theorem zq9 (a b:Str):decide ((Sum.inr a:Key)=Sum.inr b)=decide (a=b):=by
 by_cases e:a=b
 ·subst e;simp
 ·have h:¬(Sum.inr a:Key)=Sum.inr b:=λq=>e (Sum.inr.inj q)
  rw[decide_eq_false h,decide_eq_false e]
theorem zrb (a:Int) (b:Str):decide ((Sum.inl a:Key)=Sum.inr b)=false:=decide_eq_false (λq=>nomatch q)
theorem zra (a:Str) (b:Int):decide ((Sum.inr a:Key)=Sum.inl b)=false:=decide_eq_false (λq=>nomatch q)
def zcw (prog:Program) (w:World):PySem.KeyKind prog w Key where
 is:=zhZ
 hash:=zrZ w
 inj:=λv a b ha hb=>by
  rcases zcp ha with ⟨i,t,rfl,rfl⟩ | ⟨x,t,rfl,rfl⟩
  ·rcases zcp hb with ⟨j,u,rfl,e⟩ | ⟨y,u,rfl,e⟩
   ·injection e with e1 _;rw[e1]
   ·exact nomatch e
  ·rcases zcp hb with ⟨j,u,rfl,e⟩ | ⟨y,u,rfl,e⟩
   ·exact nomatch e
   ·injection e with e1 _;rw[e1]
 byValue:=λk v h=>by
  rcases zcp h with ⟨i,t,rfl,rfl⟩ | ⟨x,t,rfl,rfl⟩ <;> rfl
 pyHash:=λhv h=>by
  rcases zcp hv with ⟨i,t,rfl,rfl⟩ | ⟨x,t,rfl,rfl⟩
  ·exact wpAny_pyHash_int h
  ·exact wpAny_pyHash_str h
 eqBool:=λhu hv h=>by
  rcases zcp hu with ⟨i,t,rfl,rfl⟩ | ⟨x,t,rfl,rfl⟩
  ·rcases zcp hv with ⟨j,u,rfl,rfl⟩ | ⟨y,u,rfl,rfl⟩
   ·rw[zrc] at h;exact wpAny_eqBool_int h
   ·rw[zrb] at h;exact SeqAt.EqAt.int_str i t y u _ _ _ _ h
  ·rcases zcp hv with ⟨j,u,rfl,rfl⟩ | ⟨y,u,rfl,rfl⟩
   ·rw[zra] at h;exact SeqAt.EqAt.str_int x t j u _ _ _ _ h
   ·rw[zq9] at h;exact wpAny_eqBool_str h
 «strs»:=λk x t v h=>by
  rcases zcp h with ⟨i,u,rfl,e⟩ | ⟨y,u,rfl,e⟩
  ·exact nomatch e
  ·injection e with e1 _
   subst e1
   cases v <;> rfl
theorem zkK (prog:Program) (w:World) (i:Int) (t:Tok):(zcw prog w).is (.inl i) (.int i t)=true:=zeK i t
theorem zkJ (prog:Program) (w:World) (x:Str) (t:Tok):(zcw prog w).is (.inr x) (.str x t)=true:=zb5 x t
end L2
namespace L2
open PySem PySem.Spec PyProof.Rows
inductive V where
 | non | bl (b:Bool) | int (i:Int) | str (x:Str) | byt (b:Array UInt8) | flt (b:UInt64) | ref (a:Addr) | ty (n:String)
 deriving DecidableEq
def RelV:V→Value→Prop
 | .non,u=>u=Value.none
 | .bl b,u=>u=Value.bool b
 | .int i,u=>∃t,u=Value.int i t
 | .str x,u=>∃t,u=Value.str x t
 | .byt b,u=>∃t,u=Value.bytes b t
 | .flt b,u=>∃t,u=Value.float b t
 | .ref a,u=>u=Value.ref a
 | .ty n,u=>u=Value.type n
abbrev Vals:List V→List Value→Prop:=Paired RelV
theorem Vals.length {xs:List V} {us:List Value} (r:Vals xs us):xs.length=us.length:=Paired.length r
theorem Vals.get:∀{xs:List V} {us:List Value} {i:Nat} {x:V},Vals xs us→xs[i]? = some x→∃u,us[i]? = some u∧RelV x u
 | _,_,_,_,.nil,e=>by simp at e
 | _,_,0,_,.cons r _,e=>by simp at e;subst e;exact⟨_,rfl,r⟩
 | _,_,i + 1,x,.cons _ t,e=>by
  obtain⟨u,h1,h2⟩:=Vals.get (i:=i) (x:=x) t (by simpa using e)
  exact⟨u,by simpa using h1,h2⟩
theorem Vals.set {x:V} {u:Value} (r:RelV x u):∀{xs:List V} {us:List Value} (i:Nat),Vals xs us→Vals (xs.set i x) (us.set i u)
 | _,_,_,.nil=>.nil
 | _,_,0,.cons _ t=>.cons r t
 | _,_,i + 1,.cons q t=>.cons q (Vals.set r i t)
theorem Vals.append:∀{xs ys:List V} {us ws:List Value},Vals xs us→Vals ys ws→Vals (xs++ys) (us++ws)
 | _,_,_,_,.nil,s=>s
 | _,_,_,_,.cons r t,s=>.cons r (Vals.append t s)
theorem Vals.take:∀{xs:List V} {us:List Value} (n:Nat),Vals xs us→Vals (xs.take n) (us.take n)
 | _,_,0,_=>.nil
 | _,_,_ + 1,.nil=>.nil
 | _,_,n + 1,.cons r t=>.cons r (Vals.take n t)
theorem Vals.drop:∀{xs:List V} {us:List Value} (n:Nat),Vals xs us→Vals (xs.drop n) (us.drop n)
 | _,_,0,r=>r
 | _,_,_ + 1,.nil=>.nil
 | _,_,n + 1,.cons _ t=>Vals.drop n t
def RelO:Option V→Option Value→Prop
 | some v,some u=>RelV v u
 | none,none=>True
 | _,_=>False
def KV {κ:Type}:List (κ×V)→List (κ×Value)→Prop:=Paired λ(p:κ×V) (q:κ×Value)=>p.1=q.1∧RelV p.2 q.2
def kV:Key→V
 | .inl i=>.int i
 | .inr x=>.str x
inductive HO where
 /-- a list -/
 | lst (xs:List V)
 /-- a tuple (never changes) -/
 | tup (xs:List V)
 /-- a dict whose keys are ints and texts;one whose keys are tuples of ints and texts (the empty one is both) -/
 | dK (kvs:List (Key×V)) | dT (kvs:List (List Key×V))
 /-- a set of ints: its members,its size -/
 | set (S:Int→Bool) (n:Nat)
 /-- an instance of the class at C,its dict at dx,its attributes -/
 | ins (C dx:Addr) (fs:List (Str×V))
 /-- the dict of the instance at x -/
 | own (x:Addr)
 /-- the dict of an exception -/
 | xd (fs:List (Str×V))
 /-- a bound method,f of x -/
 | met (f x:Addr)
 /-- a range object lo,lo + 1,.. below hi -/
 | rng (lo hi:Int)
 /-- a thing that is known to the object (the script;a dict while a loop walks it): read,never written while it is so -/
 | frz (o:Obj) (u:HO)
 /-- a code object's table -/
 | tbl (ps:Array Value)
 /-- any other thing,by what is true of its one object (a def of one's own: SetO a S n:=HO.ext λh=>..) -/
 | ext (φ:Heap→Prop)
abbrev Hp:=Addr→Option HO
def upd (H:Hp) (a:Addr) (o:HO):Hp:=λb=>if b=a then some o else H b
theorem zbG {H:Hp} {a:Addr} {o:HO}:upd H a o a=some o:=by unfold upd;rw[if_pos rfl]
theorem zbL {H:Hp} {a b:Addr} {o:HO} (h:b≠a):upd H a o b=H b:=by unfold upd;rw[if_neg h]
theorem zcg {H:Hp} {a:Addr} {o u:HO}:upd (upd H a o) a u=upd H a u:=by
 funext b;unfold upd;split <;> rfl
theorem zeb {H:Hp} {a b:Addr} {o u:HO} (h:H a=some o) (h':H b=some u) (d:o≠u):a≠b:=by
 intro e;subst e;rw[h] at h';exact d (Option.some.inj h')
theorem zbI {H:Hp} {a b:Addr} {o:HO} (h:H a=some o) (h':H b=none):a≠b:=by
 intro e;subst e;rw[h] at h';cases h'
section
variable (P : Program) (w : World)
def ObjOk (H:Hp) (h:Heap) (a:Addr):HO→Prop
 | .lst xs=>xs.length≤sizeLine∧∃(its:List Value) (n:Nat),Vals xs its∧h.get? a=some { cls:=.type "list",data:=.seq its.toArray n }
 | .tup xs=>xs.length≤sizeLine∧∃its:List Value,Vals xs its∧IsTup h a its.toArray
 | .dK kvs=>kvs.length≤sizeLine∧(a == sysModules)=false∧∃vs,KV kvs vs∧h.DictOf (zcw P w) a vs
 | .dT kvs=>kvs.length≤sizeLine∧(a == sysModules)=false∧∃xs:List (List Key×Addr×Value),
   Paired (λ(p:List Key×V) (q:List Key×Addr×Value)=>p.1=q.1∧H q.2.1=some (.tup (p.1.map kV))∧RelV p.2 q.2.2) kvs xs ∧
   ∃o es ep,h.get? a=some o∧o.ExactDict∧o.data=.dict es ep∧es.toList=xs.map (entryOfKey (tupleKind (zcw P w)))∧(xs.map (·.1)).Nodup
 | .set S n=>h.SetOf (intKind P w) a S n
 | .ins C dx fs=>H dx=some (.own a)∧fs.length≤1000∧dx≠a∧h.get? a=some (PySem.W.instObj C dx) ∧
   ∃mA,h.Ns1 dx mA∧(∀f,RelO (fs.lookup f) (mA f))∧PySem.Within mA (fs.map (·.1))
 | .own _=>∃o,h.get? a=some o
 | .xd fs=>∃mA,h.Ns1 a mA∧∀f,RelO (fs.lookup f) (mA f)
 | .rng lo hi=>∃t u v,h.get? a=some { cls:=.type "range",data:=.fields #[.int lo t,.int hi u,.int 1 v] }
 | .frz o u=>h.get? a=some o∧ObjOk H h a u
 | .tbl ps=>h.get? a=some { cls:=.none,data:=.fields ps }
 | .met f x=>h.get? a=some (PySem.W.methodObj (.ref f) (.ref x))
 | .ext φ=>φ h∧(∃o,h.get? a=some o)∧∀h1 h2:Heap,φ h1→(∀o,h1.get? a=some o→h2.get? a=some o)→φ h2
def HOk (H:Hp) (h:Heap):Prop:=∀a o,H a=some o→ObjOk P w H h a o
end
section
variable {P : Program} {w : World} {H H' : Hp} {h h' : Heap} {a : Addr} {o : HO}
theorem ObjOk.lt (x:ObjOk P w H h a o):a < h.objs.size:=by
 cases o with
 | lst xs=>obtain⟨_,_,_,_,e⟩:=x;exact Heap.lt_size e
 | tup xs=>obtain⟨_,_,_,p⟩:=x;exact p.lt
 | dK kvs=>obtain⟨_,_,_,_,o,_,_,e,_⟩:=x;exact Heap.lt_size e
 | dT kvs=>obtain⟨_,_,_,_,o,_,_,e,_⟩:=x;exact Heap.lt_size e
 | set S n=>obtain⟨o,_,_,_,e,_⟩:=x;exact Heap.lt_size e
 | ins C dx fs=>obtain⟨_,_,_,e,_⟩:=x;exact Heap.lt_size e
 | own y=>obtain⟨_,e⟩:=x;exact Heap.lt_size e
 | xd fs=>obtain⟨_,⟨_,_,_,e,_⟩,_⟩:=x;exact Heap.lt_size e
 | rng lo hi=>obtain⟨_,_,_,e⟩:=x;exact Heap.lt_size e
 | frz ob u=>obtain⟨e,_⟩:=x;exact Heap.lt_size e
 | tbl ps=>exact Heap.lt_size (show h.get? a=some _ from x)
 | met f y=>exact Heap.lt_size (show h.get? a=some _ from x)
 | ext φ=>obtain⟨_,⟨_,e⟩,_⟩:=x;exact Heap.lt_size e
theorem Paired.mapP {α β:Type} {F G:α→β→Prop}:∀{l₁:List α} {l₂:List β},Paired F l₁ l₂→(∀a b,F a b→G a b)→Paired G l₁ l₂
 | _,_,.nil,_=>.nil
 | _,_,.cons r t,f=>.cons (f _ _ r) (Paired.mapP t f)
theorem ObjOk.stay (x:ObjOk P w H h a o) (k:∀b u,(b=a∨H b=some (.own a))→h.get? b=some u→h'.get? b=some u)
  (ho:∀b,H b=some (.own a)→H' b=some (.own a)) (ht:∀b xs,H b=some (.tup xs)→H' b=some (.tup xs)):ObjOk P w H' h' a o:=by
 induction o with
 | lst xs=>obtain⟨z,its,n,r,e⟩:=x;exact⟨z,its,n,r,k _ _ (.inl rfl) e⟩
 | tup xs=>obtain⟨z,its,r,ob,e,c⟩:=x;exact⟨z,its,r,ob,k _ _ (.inl rfl) e,c⟩
 | dK kvs=>obtain⟨z,y,vs,r,ob,es,ep,e,c⟩:=x;exact⟨z,y,vs,r,ob,es,ep,k _ _ (.inl rfl) e,c⟩
 | dT kvs =>
  obtain⟨z,y,xs,r,ob,es,ep,e,c⟩:=x
  exact⟨z,y,xs,Paired.mapP r λp q z=>⟨z.1,ht _ _ z.2.1,z.2.2⟩,ob,es,ep,k _ _ (.inl rfl) e,c⟩
 | set S n=>obtain⟨ob,es,ep,t,e,c⟩:=x;exact⟨ob,es,ep,t,k _ _ (.inl rfl) e,c⟩
 | ins C dx fs =>
  obtain⟨d,z,ne,e,mA,⟨od,es,ep,e2,c⟩,r⟩:=x
  exact⟨ho _ d,z,ne,k _ _ (.inl rfl) e,mA,⟨od,es,ep,k _ _ (.inr d) e2,c⟩,r⟩
 | own y=>obtain⟨ob,e⟩:=x;exact⟨ob,k _ _ (.inl rfl) e⟩
 | xd fs=>obtain⟨mA,⟨od,es,ep,e,c⟩,r⟩:=x;exact⟨mA,⟨od,es,ep,k _ _ (.inl rfl) e,c⟩,r⟩
 | rng lo hi=>obtain⟨t,u,v,e⟩:=x;exact⟨t,u,v,k _ _ (.inl rfl) e⟩
 | frz ob u ih=>obtain⟨e,q⟩:=x;exact⟨k _ _ (.inl rfl) e,ih q⟩
 | tbl ps =>
  have e:h.get? a=some { cls:=.none,data:=.fields ps }:=x
  show h'.get? a=some { cls:=.none,data:=.fields ps }
  exact k a _ (.inl rfl) e
 | met f y =>
  have e:h.get? a=some (PySem.W.methodObj (.ref f) (.ref y)):=x
  show h'.get? a=some (PySem.W.methodObj (.ref f) (.ref y))
  exact k a _ (.inl rfl) e
 | ext φ=>obtain⟨p,⟨o,e⟩,st⟩:=x;exact⟨st _ _ p λo q=>k _ _ (.inl rfl) q,⟨o,k _ _ (.inl rfl) e⟩,st⟩
theorem HOk.lt (x:HOk P w H h) (e:H a=some o):a < h.objs.size:=(x a o e).lt
theorem HOk.fresh (x:HOk P w H h) (e:h.objs.size≤a):H a=none:=by
 cases q:H a with
 | none=>rfl
 | some u=>exact absurd (Nat.lt_of_lt_of_le (x.lt q) e) (Nat.lt_irrefl _)
theorem HOk.kept (x:HOk P w H h) (k:∀b u,h.get? b=some u→h'.get? b=some u):HOk P w H h':=λa o e =>
 (x a o e).stay (λb u _ q=>k b u q) (λ_ q=>q) λ_ _ q=>q
theorem HOk.laid (x:HOk P w H h) (k:∀b u,h.get? b=some u→h'.get? b=some u) (hp:h.objs.size≤a) (new:ObjOk P w (upd H a o) h' a o):HOk P w (upd H a o) h':=λb u e=>by
 have hn:=x.fresh hp
 by_cases hb:b=a
 ·subst hb;rw[zbG] at e;cases e;exact new
 ·rw[zbL hb] at e
  exact (x b u e).stay (λc v _ q=>k c v q) (λc q=>by rw[zbL (zbI q hn)];exact q) λc xs q=>by rw[zbL (zbI q hn)];exact q
end
def Rd (H:Hp) (a:Addr) (u:HO):Prop:=H a=some u∨∃o,H a=some (.frz o u)
theorem Rd.ok {P:Program} {w:World} {H:Hp} {h:Heap} {a:Addr} {u:HO} (r:Rd H a u) (x:HOk P w H h):ObjOk P w H h a u:=by
 rcases r with r | ⟨o,r⟩
 ·exact x a u r
 ·obtain⟨_,q⟩:=x a _ r
  exact q
def Mut:Option HO→Prop
 | some (.lst _)=>True
 | some (.dK _)=>True
 | some (.dT _)=>True
 | some (.set _ _)=>True
 | some (.ins _ _ _)=>True
 | some (.ext _)=>True
 | _=>False
section
variable {P : Program} {w : World} {H : Hp} {h h' : Heap} {x e : Addr} {o' : HO}
theorem HOk.write (ok:HOk P w H h) (mu:Mut (H x)) (he:e=x∨H e=some (.own x)) (k:∀b u,b≠e→h.get? b=some u→h'.get? b=some u) (heo:∃u,h'.get? e=some u)
  (new:ObjOk P w (upd H x o') h' x o'):HOk P w (upd H x o') h':=λb u q=>by
 have nown:∀c y,H c=some (.own y)→c≠x:=λc y r z=>by subst z;rw[r] at mu;exact mu
 have ntup:∀c xs,H c=some (.tup xs)→c≠x:=λc xs r z=>by subst z;rw[r] at mu;exact mu
 by_cases hb:b=x
 ·subst hb;rw[zbG] at q;cases q;exact new
 ·rw[zbL hb] at q
  by_cases hbe:b=e
  ·have q':H b=some (.own x):=by
    rcases he with z | z
    ·exact absurd (hbe.trans z) hb
    ·rw[hbe];exact z
   rw[q] at q';cases q'
   obtain⟨v,hv⟩:=heo
   exact⟨v,by rw[hbe];exact hv⟩
  ·refine (ok b u q).stay (λc v hc r=>k c v ?_ r) (λc r=>by rw[zbL (nown c b r)];exact r) λc xs r=>by rw[zbL (ntup c xs r)];exact r
   rcases hc with rfl | hc
   ·exact hbe
   ·rintro rfl
    rcases he with z | z
    ·exact nown c b hc z
    ·rw[hc] at z;cases z;exact hb rfl
end
structure Un (fs ex:List Addr) (H H':Hp) (h h':Heap):Prop where
 keep:∀b o,h.get? b=some o→H b=none→b ∉ fs→b ∉ ex→h'.get? b=some o
 slot:∀b o,h.get? b=some o→H b=none→b∈fs→b ∉ ex→∃sl,h'.get? b=some { o with slots:=sl }
 free:∀b o,h.get? b=some o→H b=none→b ∉ ex→H' b=none
 there:∀b o,h.get? b=some o→b ∉ ex→∃o',h'.get? b=some o'
 tups:∀b xs,H b=some (.tup xs)→H' b=some (.tup xs)
 frzs:∀b o u,H b=some (.frz o u)→H' b=some (.frz o u)
 tbls:∀b ps,H b=some (.tbl ps)→∃more,H' b=some (.tbl (ps++more))
section
variable {fs fs' ex ex' : List Addr} {H H1 H2 : Hp} {h h1 h2 h' : Heap} {a x e : Addr} {o : HO}
theorem Un.any (u:Un fs ex H H1 h h1) {b:Addr} {ob:Obj} (q:h.get? b=some ob) (n:H b=none) (hx:b ∉ ex):∃sl,h1.get? b=some { ob with slots:=sl }:=by
 by_cases hb:b∈fs
 ·exact u.slot b ob q n hb hx
 ·exact⟨ob.slots,u.keep b ob q n hb hx⟩
theorem Un.kept (k:∀b u,h.get? b=some u→h'.get? b=some u):Un fs ex H H h h' :=
 ⟨λb ob q _ _ _=>k b ob q,λb ob q _ _ _=>⟨ob.slots,k b ob q⟩,λ_ _ _ n _=>n,λb ob q _=>⟨ob,k b ob q⟩,λ_ _ q=>q,λ_ _ _ q=>q,λ_ ps q=>⟨#[],by rw[q];simp⟩⟩
theorem Un.refl:Un fs ex H H h h:=Un.kept λ_ _ q=>q
theorem Un.laid (k:∀b u,h.get? b=some u→h'.get? b=some u) (hp:h.objs.size≤a) (hn:H a=none):Un fs ex H (upd H a o) h h' where
 keep:=λb u q _ _ _=>k b u q
 slot:=λb u q _ _ _=>⟨u.slots,k b u q⟩
 free:=λb u q n _=>by rw[zbL (Nat.ne_of_lt (Nat.lt_of_lt_of_le (Heap.lt_size q) hp))];exact n
 there:=λb u q _=>⟨u,k b u q⟩
 tups:=λb xs q=>by rw[zbL (zbI q hn)];exact q
 frzs:=λb u xs q=>by rw[zbL (zbI q hn)];exact q
 tbls:=λb ps q=>⟨#[],by rw[zbL (zbI q hn),q];simp⟩
theorem Un.write (mu:Mut (H x)) (he:e=x∨H e=some (.own x)) (k:∀b u,b≠e→h.get? b=some u→h'.get? b=some u) (heo:∃u,h'.get? e=some u):Un fs ex H (upd H x o) h h':=by
 have hx:∀b,H b=none→b≠x:=λb n z=>by subst z;rw[n] at mu;exact mu
 have hb:∀b,H b=none→b≠e:=λb n z=>by
  subst z
  rcases he with r | r
  ·exact hx b n r
  ·rw[n] at r;cases r
 have hm:∀b u,H b=some u→¬Mut (some u)→b≠x:=λb u q nm z=>by subst z;rw[q] at mu;exact nm mu
 refine⟨λb u q n _ _=>k b u (hb b n) q,λb u q n _ _=>⟨u.slots,k b u (hb b n) q⟩,λb u q n _=>by rw[zbL (hx b n)];exact n,λb u q _=>?_,
  λb xs q=>by rw[zbL (hm b _ q λz=>z)];exact q,λb u xs q=>by rw[zbL (hm b _ q λz=>z)];exact q,λb ps q=>⟨#[],by rw[zbL (hm b _ q λz=>z),q];simp⟩⟩
 by_cases hbe:b=e
 ·subst hbe;exact heo
 ·exact⟨u,k b u hbe q⟩
end
def trk (h:Heap) (H:Hp):List Addr:=(List.range h.objs.size).filter λa=>(H a).isSome
def zoX (h:Heap) (H:Hp):Heap:=PySem.W.hideAll h (trk h H)
theorem znA (h:Heap) (H:Hp):(zoX h H).objs.size=h.objs.size:=PySem.W.hideAll_size _ _
theorem zoW {h:Heap} {H:Hp} {b:Addr} {o:Obj} (e:h.get? b=some o) (n:H b=none):(zoX h H).get? b=some o :=
 PySem.W.hideAll_get _ e λhm=>by
  have q:(H b).isSome=true:=(List.mem_filter.mp hm).2
  rw[n] at q;simp at q
theorem zp3 {h:Heap} {H:Hp} {b:Addr} {o:Obj} (e:(zoX h H).get? b=some o):h.get? b=some o∧H b=none:=by
 have e':h.get? b=some o:=PySem.W.of_hideAll (trk h H) e
 refine⟨e',?_⟩
 cases q:H b with
 | none=>rfl
 | some x =>
  have hm:b∈trk h H:=List.mem_filter.mpr ⟨List.mem_range.mpr (Heap.lt_size e'),by simp [q]⟩
  have z:(zoX h H).get? b=none:=PySem.W.hideAll_none (trk h H) hm
  rw[z] at e;cases e
end L2
namespace L2
open PySem PySem.Spec PyProof.Rows
structure Mod (K:PySem.W.Frag) (mg:Str→Option Value) (base:Heap):Prop where
 kin:K.In base
 glob:base.Ns mainGlobals mg
 blt:∃mb,base.Ns builtinsNs mb∧∀x:Str,x≠"__name__"→mb x=bootBuiltins x
 nolimit:base.NoLimit
structure Cx where
 prog:Program
 w:World
 K:PySem.W.Frag
 mg:Str→Option Value
 base:Heap
 A:Around
 N:List Str
 s_0:Shared
 H_0:Hp
 env:Env
 outer:List Env
 stack:List Env
 ex:List Addr
 fn:Str→Bool
 calm:Bool
 pn:List (Addr×Obj)
 xe:Value→Shared→Prop
def frs (l:List Env):List Addr:=l.filterMap (·.frame)
abbrev Cx.fs (X:Cx):List Addr:=frs X.outer
def Vis (sc:Scope) (x:Str):Prop:=sc.names.lookup x=some .local∨sc.names.lookup x=some .cell∨sc.names.lookup x=some .free
def Loc (sc:Scope) (x:Str):Prop:=sc.names.lookup x=some .local∨sc.names.lookup x=some .cell
def Look (env:Env) (h:Heap) (m:Str→Option Value) (x:Str) (u:Value):Prop :=
 (env.kindOf x=some .local∧m x=some u)∨((env.kindOf x=some .cell∨env.kindOf x=some .free)∧∃c,env.cells.lookup x=some c∧h.IsCell c (some u))
structure Cx.Ok (X:Cx):Prop where
 mod:Mod X.K X.mg X.base
 kind:X.env.scope.kind=.function
 glob:X.env.globals=mainGlobals
 blt:X.env.builtins=builtinsNs
 above:X.s_0.heap.objs.size≤X.env.locals
 inj:∀x y c,X.env.cells.lookup x=some c→X.env.cells.lookup y=some c→x=y
 has:∀x,(X.env.kindOf x=some .cell∨X.env.kindOf x=some .free)→∃c,X.env.cells.lookup x=some c
 cab:∀x c,X.fn x=true→X.env.cells.lookup x=some c→X.s_0.heap.objs.size≤c
 hd:X.calm=true→X.A.handled=none
 frames:X.A.frames=some X.stack
 stk:X.stack=X.outer∨(X.stack=X.env::X.outer∧X.env.frame=some X.env.locals)
 exf:∀b∈X.ex,b≠X.env.locals∧∀x c,X.env.cells.lookup x=some c→c≠b
 bs:∀b o,X.base.get? b=some o→X.s_0.heap.get? b=some o∧X.H_0 b=none
 bsz:X.base.objs.size≤X.s_0.heap.objs.size
 noex:∀b o,X.base.get? b=some o→b ∉ X.ex
 exfs:∀b∈X.ex,b ∉ X.fs
 funs:X.s_0.heap.FunFrames X.base X.outer
 frf:∀b∈X.fs,X.H_0 b=none
structure Inv (X:Cx) (pins:List (Addr×Obj)) (σ:List (Option V)) (H:Hp) (s:Shared):Prop where
 ok:X.Ok
 os:s.os=X.s_0.os
 bare:AllBare s.gens
 base:Un X.fs X.ex X.H_0 H X.s_0.heap s.heap
 loc:∃m,s.heap.Ns X.env.locals m∧∀(i:Nat) (x:Str) (v:V),X.N[i]? = some x→σ[i]? = some (some v)→Vis X.env.scope x→∃u,RelV v u∧Look X.env s.heap m x u
 cell:∀x c,X.env.cells.lookup x=some c→∃v,s.heap.IsCell c v
 free:H X.env.locals=none
 freeC:∀x c,X.env.cells.lookup x=some c→H c=none
 pin:∀p∈X.pn++pins,s.heap.get? p.1=some p.2∧H p.1=none∧p.1≠X.env.locals∧p.1 ∉ X.fs∧∀v,p.2.data≠.cell v
 hok:HOk X.prog X.w H s.heap
 len:σ.length=X.N.length
section
variable {X : Cx} {pins : List (Addr × Obj)} {σ : List (Option V)} {H H' : Hp} {s : Shared} {h' : Heap}
theorem Cx.Ok.nofr (ok:X.Ok) {b:Addr} {o:Obj} (e:X.base.get? b=some o):b ∉ X.fs:=λhb=>by
 have:=(ok.funs.mem hb).1
 rw[e] at this;cases this
theorem Inv.bs (I:Inv X pins σ H s):∀b o,X.base.get? b=some o→s.heap.get? b=some o∧H b=none:=λb o e =>
 ⟨I.base.keep b o (I.ok.bs b o e).1 (I.ok.bs b o e).2 (I.ok.nofr e) (I.ok.noex b o e),I.base.free b o (I.ok.bs b o e).1 (I.ok.bs b o e).2 (I.ok.noex b o e)⟩
theorem Inv.bk (I:Inv X pins σ H s):∀b o,X.base.get? b=some o→s.heap.get? b=some o:=λb o e=>(I.bs b o e).1
theorem Inv.mod (I:Inv X pins σ H s):Mod X.K X.mg X.base:=I.ok.mod
theorem Inv.kIn (I:Inv X pins σ H s):X.K.In s.heap:=I.ok.mod.kin.keeps I.bk
theorem Inv.fr (I:Inv X pins σ H s):∃m,Fr X.base X.env.locals s.heap m :=
 let ⟨m,hn,_⟩:=I.loc
 ⟨m,hn,I.bk,Nat.le_trans I.ok.bsz I.ok.above⟩
theorem Inv.lt (I:Inv X pins σ H s):X.env.locals < s.heap.objs.size:=let ⟨_,hn,_⟩:=I.loc;hn.lt
theorem Inv.sz (I:Inv X pins σ H s):X.s_0.heap.objs.size≤s.heap.objs.size:=Nat.le_trans I.ok.above (Nat.le_of_lt I.lt)
theorem Inv.nofs (I:Inv X pins σ H s) {a:Addr} (h:s.heap.objs.size≤a):a ∉ X.fs:=λhb=>by
 obtain⟨_,o,ho,_⟩:=I.ok.funs.mem hb
 exact absurd (Nat.lt_of_lt_of_le (Heap.lt_size ho) (Nat.le_trans I.sz h)) (Nat.lt_irrefl _)
theorem Inv.cne (I:Inv X pins σ H s):∀x c,X.env.cells.lookup x=some c→c≠X.env.locals:=λx c e z=>by
 obtain⟨v,o,ho,hd⟩:=I.cell x c e
 obtain⟨m,⟨o',es,ep,ho',hd',_⟩,_⟩:=I.loc
 rw[z,ho'] at ho;cases ho;rw[hd'] at hd;cases hd
theorem Inv.funs (I:Inv X pins σ H s):s.heap.FunFrames X.base X.outer:=by
 have all:∀(l:List Env),(∀b∈frs l,b∈X.fs)→X.s_0.heap.FunFrames X.base l→s.heap.FunFrames X.base l:=by
  intro l
  induction l with
  | nil=>intro _ _;trivial
  | cons env r ih =>
   intro hs hl
   obtain⟨hk,⟨L,o,hf,hn,ho,hd⟩,hr⟩:=hl
   have hL:L∈X.fs:=hs L (by unfold frs;rw[List.filterMap_cons,hf];exact List.mem_cons_self)
   obtain⟨sl,e⟩:=I.base.slot L o ho (I.ok.frf L hL) hL λz=>I.ok.exfs L z hL
   exact⟨hk,⟨L,_,hf,hn,e,hd⟩,ih (λb hb=>hs b (by unfold frs;rw[List.filterMap_cons,hf];exact List.mem_cons_of_mem _ hb)) hr⟩
 exact all X.outer (λ_ hb=>hb) I.ok.funs
theorem Inv.stack (I:Inv X pins σ H s):s.heap.FunFrames X.base X.stack:=by
 rcases I.ok.stk with e | ⟨e,hf⟩
 ·rw[e];exact I.funs
 ·rw[e]
  obtain⟨m,hn,_⟩:=I.loc
  refine .cons (by rw[I.ok.kind];decide) hf hn ?_ I.funs
  exact Heap.get?_none_of_le (Nat.le_trans I.ok.bsz I.ok.above)
theorem Inv.stkSub (I:Inv X pins σ H s):∀b∈frs X.stack,b∈X.env.locals::X.fs:=λb hb=>by
 rcases I.ok.stk with e | ⟨e,hf⟩
 ·rw[e] at hb;exact List.mem_cons_of_mem _ hb
 ·rw[e] at hb
  unfold frs at hb
  rw[List.filterMap_cons,hf] at hb
  exact hb
theorem Inv.stkFree (I:Inv X pins σ H s):∀b∈frs X.stack,H b=none:=λb hb=>by
 rcases List.mem_cons.mp (I.stkSub b hb) with e | hb
 ·rw[e];exact I.free
 ·obtain⟨_,o,ho,_⟩:=I.ok.funs.mem hb
  exact I.base.free b o ho (I.ok.frf b hb) λz=>I.ok.exfs b z hb
theorem Inv.step {g':Array GenState} {t':Nat} {d':Drawn} {ch:List Addr} (I:Inv X pins σ H s)
  (hch:∀b∈ch,(b∈X.ex∨X.s_0.heap.objs.size≤b)∧b≠X.env.locals∧(∀x c,X.env.cells.lookup x=some c→c≠b)∧∀p∈X.pn++pins,p.1≠b)
  (keep:∀b o,b≠X.env.locals→b ∉ X.fs→b ∉ ch→s.heap.get? b=some o→H b=none→h'.get? b=some o)
  (slot:∀b o,b≠X.env.locals→b∈X.fs→b ∉ ch→s.heap.get? b=some o→H b=none→∃sl,h'.get? b=some { o with slots:=sl }) (free:∀b o,b ∉ ch→s.heap.get? b=some o→H b=none→H' b=none)
  (there:∀b o,b ∉ ch→s.heap.get? b=some o→∃o',h'.get? b=some o')
  (tups:∀b xs,H b=some (.tup xs)→H' b=some (.tup xs)) (frzs:∀b o u,H b=some (.frz o u)→H' b=some (.frz o u)) (tbls:∀b ps,H b=some (.tbl ps)→∃more,H' b=some (.tbl (ps++more)))
  (ns:∀m,s.heap.Ns X.env.locals m→h'.Ns X.env.locals m) (hok:HOk X.prog X.w H' h') (hg:AllBare g') :
  Inv X pins σ H' { s with heap:=h',gens:=g',drawn:=d',toks:=t' }:=by
 have neL:∀b o,X.s_0.heap.get? b=some o→b≠X.env.locals:=λb o e=>Nat.ne_of_lt (Nat.lt_of_lt_of_le (Heap.lt_size e) I.ok.above)
 have neC:∀b o,X.s_0.heap.get? b=some o→b ∉ X.ex→b ∉ ch:=λb o e hx hb=>by
  rcases (hch b hb).1 with z | z
  ·exact hx z
  ·exact absurd (Nat.lt_of_lt_of_le (Heap.lt_size e) z) (Nat.lt_irrefl _)
 have cellK:∀x c,X.env.cells.lookup x=some c→∀v,s.heap.IsCell c v→h'.IsCell c v:=λx c e v ⟨o,ho,hd⟩=>by
  have nch:c ∉ ch:=λz=>(hch c z).2.2.1 x c e rfl
  by_cases hc:c∈X.fs
  ·obtain⟨sl,q⟩:=slot c o (I.cne x c e) hc nch ho (I.freeC x c e)
   exact⟨_,q,hd⟩
  ·exact⟨o,keep c o (I.cne x c e) hc nch ho (I.freeC x c e),hd⟩
 refine⟨I.ok,I.os,hg,⟨λb o e n hb hx=>?_,λb o e n hb hx=>?_,λb o e n hx=>?_,λb o e hx=>?_,λb xs e=>tups b xs (I.base.tups b xs e),λb o xs e=>frzs b o xs (I.base.frzs b o xs e),λb ps e=>?_⟩,?_,λx c e=>?_,?_,λx c e=>?_,λp hp=>?_,hok,I.len⟩
 ·exact keep b o (neL b o e) hb (neC b o e hx) (I.base.keep b o e n hb hx) (I.base.free b o e n hx)
 ·obtain⟨sl,e1⟩:=I.base.slot b o e n hb hx
  obtain⟨sl',e2⟩:=slot b _ (neL b o e) hb (neC b o e hx) e1 (I.base.free b o e n hx)
  exact⟨sl',e2⟩
 ·obtain⟨o',e1⟩:=I.base.there b o e hx
  exact free b o' (neC b o e hx) e1 (I.base.free b o e n hx)
 ·obtain⟨o',e1⟩:=I.base.there b o e hx
  exact there b o' (neC b o e hx) e1
 ·obtain⟨m1,e1⟩:=I.base.tbls b ps e
  obtain⟨m2,e2⟩:=tbls b _ e1
  exact⟨m1++m2,by rw[e2,Array.append_assoc]⟩
 ·obtain⟨m,hn,hl⟩:=I.loc
  refine⟨m,ns m hn,λi x v e1 e2 e3=>?_⟩
  obtain⟨u,r,l⟩:=hl i x v e1 e2 e3
  refine⟨u,r,?_⟩
  rcases l with l | ⟨k,c,e,z⟩
  ·exact .inl l
  ·exact .inr ⟨k,c,e,cellK x c e _ z⟩
 ·obtain⟨v,z⟩:=I.cell x c e
  exact⟨v,cellK x c e v z⟩
 ·obtain⟨m,⟨o,_,_,ho,_⟩,_⟩:=I.loc
  exact free _ o (λz=>(hch _ z).2.1 rfl) ho I.free
 ·obtain⟨v,o,ho,hd⟩:=I.cell x c e
  exact free c o (λz=>(hch c z).2.2.1 x c e rfl) ho (I.freeC x c e)
 ·obtain⟨e,n,ne,nf,d⟩:=I.pin p hp
  have nch:p.1 ∉ ch:=λz=>(hch p.1 z).2.2.2 p hp rfl
  exact⟨keep p.1 p.2 ne nf nch e n,free p.1 p.2 nch e n,ne,nf,d⟩
theorem Inv.un {t':Nat} (I:Inv X pins σ H s) (u:Un X.fs [] H H' s.heap h') (hok:HOk X.prog X.w H' h'):Inv X pins σ H' { s with heap:=h',toks:=t' }:=by
 obtain⟨m,⟨o,es,ep,ho,r⟩,_⟩:=id I.loc
 obtain⟨sl,hL⟩:=u.any ho I.free (by simp)
 exact I.step (g':=s.gens) (d':=s.drawn) (ch:=[]) (λ_ z=>nomatch z) (λb o _ hb _ e n=>u.keep b o e n hb (by simp)) (λb o _ hb _ e n=>u.slot b o e n hb (by simp)) (λb o _ e n=>u.free b o e n (by simp)) (λb o _ e=>u.there b o e (by simp)) u.tups u.frzs u.tbls (λm' hm=>by
  obtain⟨o',es',ep',ho',r'⟩:=hm
  rw[ho] at ho';cases ho'
  exact⟨_,es',ep',hL,r'⟩) hok I.bare
theorem Inv.call {g':Array GenState} {t':Nat} {d':Drawn} {ch:List Addr} (I:Inv X pins σ H s) (u:Un (frs X.stack) ch H H' s.heap h') (hok:HOk X.prog X.w H' h') (hg:AllBare g')
  (hch:∀b∈ch,(b∈X.ex∨X.s_0.heap.objs.size≤b)∧b≠X.env.locals∧(∀x c,X.env.cells.lookup x=some c→c≠b)∧∀p∈X.pn++pins,p.1≠b) :
  Inv X pins σ H' { s with heap:=h',gens:=g',drawn:=d',toks:=t' }:=by
 obtain⟨m,⟨o,es,ep,ho,r⟩,_⟩:=id I.loc
 obtain⟨sl,hL⟩:=u.any ho I.free λz=>(hch _ z).2.1 rfl
 exact I.step (ch:=ch) hch (λb o hL hb hc e n=>u.keep b o e n (λz=>(List.mem_cons.mp (I.stkSub b z)).elim hL hb) hc) (λb o _ _ hc e n=>u.any e n hc) (λb o hc e n=>u.free b o e n hc) (λb o hc e=>u.there b o e hc) u.tups u.frzs u.tbls (λm' hm=>by
  obtain⟨o',es',ep',ho',r'⟩:=hm
  rw[ho] at ho';cases ho'
  exact⟨_,es',ep',hL,r'⟩) hok hg
theorem Inv.turned {t':Nat} {it:Addr} (I:Inv X pins σ H s) (k:∀b o,b≠it→s.heap.get? b=some o→h'.get? b=some o) (hn:H it=none) (hL:it≠X.env.locals)
  (h1:it∈X.ex∨X.s_0.heap.objs.size≤it) (h2:∀x c,X.env.cells.lookup x=some c→c≠it) (h3:∀p∈X.pn++pins,p.1≠it):Inv X pins σ H { s with heap:=h',toks:=t' }:=by
 have nit:∀b u,H b=some u→b≠it:=λb u e z=>by rw[z,hn] at e;cases e
 refine I.step (g':=s.gens) (d':=s.drawn) (ch:=[it]) (λb hb=>?_) (λb o _ _ hc e _=>k b o (λz=>hc (by simp [z])) e) (λb o _ _ hc e _=>⟨o.slots,k b o (λz=>hc (by simp [z])) e⟩) (λ_ _ _ _ n=>n)
  (λb o hc e=>⟨o,k b o (λz=>hc (by simp [z])) e⟩) (λ_ _ e=>e) (λ_ _ _ e=>e) (λb ps e=>⟨#[],by rw[e];simp⟩) (λm hm=>?_) (λb u e=>?_) I.bare
 ·have e:b=it:=by simpa using hb
  subst e
  exact⟨h1,hL,h2,h3⟩
 ·obtain⟨o,es,ep,ho,r⟩:=hm
  exact⟨o,es,ep,k _ o (Ne.symm hL) ho,r⟩
 ·refine (I.hok b u e).stay (λc v hc q=>k c v ?_ q) (λ_ q=>q) λ_ _ q=>q
  rcases hc with z | z
  ·rw[z];exact nit b u e
  ·exact nit c _ z
theorem Inv.tok (I:Inv X pins σ H s) (t:Nat):Inv X pins σ H { s with toks:=t }:=I.un (h':=s.heap) (t':=t) Un.refl I.hok
theorem Inv.kept {t':Nat} (I:Inv X pins σ H s) (k:∀b u,s.heap.get? b=some u→h'.get? b=some u):Inv X pins σ H { s with heap:=h',toks:=t' }:=I.un (Un.kept k) (I.hok.kept k)
theorem Inv.laid {a:Addr} {o:HO} {t':Nat} (I:Inv X pins σ H s) (k:∀b u,s.heap.get? b=some u→h'.get? b=some u) (hp:s.heap.objs.size≤a) (new:ObjOk X.prog X.w (upd H a o) h' a o) :
  Inv X pins σ (upd H a o) { s with heap:=h',toks:=t' }:=I.un (Un.laid k hp (I.hok.fresh hp)) (I.hok.laid k hp new)
theorem Inv.write {x e:Addr} {o:HO} {t':Nat} (I:Inv X pins σ H s) (mu:Mut (H x)) (he:e=x∨H e=some (.own x)) (k:∀b u,b≠e→s.heap.get? b=some u→h'.get? b=some u) (heo:∃u,h'.get? e=some u)
  (new:ObjOk X.prog X.w (upd H x o) h' x o):Inv X pins σ (upd H x o) { s with heap:=h',toks:=t' }:=I.un (Un.write mu he k heo) (I.hok.write mu he k heo new)
theorem Inv.weak {σ':List (Option V)} (I:Inv X pins σ H s) (hl:σ'.length=σ.length) (w:∀(i:Nat) v,σ'[i]? = some (some v)→σ[i]? = some (some v)):Inv X pins σ' H s :=
 ⟨I.ok,I.os,I.bare,I.base,let ⟨m,hn,hl'⟩:=I.loc;⟨m,hn,λi x v e1 e2 e3=>hl' i x v e1 (w i v e2) e3⟩,I.cell,I.free,I.freeC,I.pin,I.hok,hl.trans I.len⟩
theorem Inv.pins_of {pins':List (Addr×Obj)} (I:Inv X pins σ H s) (h:∀p∈pins',s.heap.get? p.1=some p.2∧H p.1=none∧p.1≠X.env.locals∧p.1 ∉ X.fs∧∀v,p.2.data≠.cell v):Inv X pins' σ H s :=
 ⟨I.ok,I.os,I.bare,I.base,I.loc,I.cell,I.free,I.freeC,λp hp=>(List.mem_append.mp hp).elim (λz=>I.pin p (List.mem_append_left _ z)) (h p),I.hok,I.len⟩
theorem zi5 {N:List Str} (hN:N.Nodup) {i j:Nat} {x:Str} (a:N[i]? = some x) (b:N[j]? = some x):i=j:=by
 obtain⟨h1,e1⟩:=List.getElem?_eq_some_iff.mp a
 obtain⟨h2,e2⟩:=List.getElem?_eq_some_iff.mp b
 exact (List.getElem_inj hN).mp (e1.trans e2.symm)
theorem zjr {M:Model} {A:Around} {E:Value→Shared→Prop} {i:Nat} {x:Str} {v:V} {u:Value} {Q:Unit→Shared→Prop} (I:Inv X pins σ H s) (hN:X.N.Nodup) (hi:X.N[i]? = some x) (hx:Loc X.env.scope x) (r:RelV v u)
  (h:∀s',Inv X pins (σ.set i (some v)) H s'→(∃a,Heap.SameBut a s.heap s'.heap∧(a=X.env.locals∨X.env.cells.lookup x=some a))→Q () s') (hf:X.fn x=true∨X.env.scope.names.lookup x=some .local:=by first | exact .inl rfl | exact .inr rfl | assumption):wpAny M A (storeName X.env x u) Q E s:=by
 obtain⟨m,hn,hl⟩:=id I.loc
 have hcls:(X.env.scope.kind == .class || (X.env.scope.kind == .module && X.env.locals != X.env.globals))=false:=by rw[I.ok.kind];rfl
 have hiσ:i < σ.length:=by rw[I.len];exact (List.getElem?_eq_some_iff.mp hi).1
 have cne:=I.cne
 have tracked:∀{a:Addr} {h':Heap},(∃o,s.heap.get? a=some o∧H a=none)→Heap.SameBut a s.heap h'→HOk X.prog X.w H h':=λ{a h'} ha hs b ob e=>by
  obtain⟨_,_,hfree⟩:=ha
  refine (I.hok b ob e).stay (λc w' hc q=>(hs.2 c ?_).trans q) (λ_ q=>q) λ_ _ q=>q
  rintro rfl
  rcases hc with rfl | hc
  ·rw[hfree] at e;cases e
  ·rw[hfree] at hc;cases hc
 rcases hx with hk | hk
 ·refine wpAny_storeName_local hk hn (λh' hn' hs=>?_) hcls
  obtain⟨oL,_,_,hoL,_⟩:=id hn
  refine h _ ⟨I.ok,I.os,I.bare,⟨λb o e n hb hx=>?_,λb o e n hb hx=>?_,I.base.free,λb o e hx=>?_,I.base.tups,I.base.frzs,I.base.tbls⟩,⟨_,hn',λj y v' e1 e2 e3=>?_⟩,λy c e=>?_,I.free,I.freeC,λp hp=>?_,tracked ⟨oL,hoL,I.free⟩ hs,by simpa using I.len⟩ ⟨_,hs,.inl rfl⟩
  ·exact (hs.2 b (Nat.ne_of_lt (Nat.lt_of_lt_of_le (Heap.lt_size e) I.ok.above))).trans (I.base.keep b o e n hb hx)
  ·obtain⟨sl,e1⟩:=I.base.slot b o e n hb hx
   exact⟨sl,(hs.2 b (Nat.ne_of_lt (Nat.lt_of_lt_of_le (Heap.lt_size e) I.ok.above))).trans e1⟩
  ·obtain⟨o',e1⟩:=I.base.there b o e hx
   exact⟨o',(hs.2 b (Nat.ne_of_lt (Nat.lt_of_lt_of_le (Heap.lt_size e) I.ok.above))).trans e1⟩
  ·by_cases hj:j=i
   ·subst hj
    rw[hi] at e1;cases e1
    rw[List.getElem?_set_self hiσ] at e2
    cases e2
    exact⟨u,r,.inl ⟨hk,by simp⟩⟩
   ·rw[List.getElem?_set_ne (Ne.symm hj)] at e2
    obtain⟨u',r',q⟩:=hl j y v' e1 e2 e3
    refine⟨u',r',?_⟩
    rcases q with ⟨k,e⟩ | ⟨k,c,e,z⟩
    ·refine .inl ⟨k,?_⟩
     have:y≠x:=λe=>hj (zi5 hN e1 (e ▸ hi))
     simp [this,e]
    ·exact .inr ⟨k,c,e,z.sameBut hs (cne y c e)⟩
  ·obtain⟨w',z⟩:=I.cell y c e
   exact⟨w',z.sameBut hs (cne y c e)⟩
  ·obtain⟨e,n,ne,nf,d⟩:=I.pin p hp
   exact⟨(hs.2 p.1 ne).trans e,n,ne,nf,d⟩
 ·have hfn:X.fn x=true:=by
   rcases hf with z | z
   ·exact z
   ·rw[z] at hk;cases hk
  obtain⟨c,hc⟩:=I.ok.has x (.inl hk)
  obtain⟨w',z⟩:=I.cell x c hc
  refine wpAny_storeName_cell I.ok.kind hk hc z (λh' hc' hs=>?_)
  obtain⟨oc,hoc,hocd⟩:=id z
  refine h { s with heap:=h' } ⟨I.ok,I.os,I.bare,⟨λb o e n hb hx=>?_,λb o e n hb hx=>?_,I.base.free,λb o e hx=>?_,I.base.tups,I.base.frzs,I.base.tbls⟩,⟨m,hn.sameBut hs (Ne.symm (cne x c hc)),λj y v' e1 e2 e3=>?_⟩,λy c' e=>?_,I.free,I.freeC,λp hp=>?_,tracked ⟨oc,hoc,I.freeC x c hc⟩ hs,by simpa using I.len⟩ ⟨c,hs,.inr hc⟩
  ·exact (hs.2 b (Nat.ne_of_lt (Nat.lt_of_lt_of_le (Heap.lt_size e) (I.ok.cab x c hfn hc)))).trans (I.base.keep b o e n hb hx)
  ·obtain⟨sl,e1⟩:=I.base.slot b o e n hb hx
   exact⟨sl,(hs.2 b (Nat.ne_of_lt (Nat.lt_of_lt_of_le (Heap.lt_size e) (I.ok.cab x c hfn hc)))).trans e1⟩
  ·obtain⟨o',e1⟩:=I.base.there b o e hx
   exact⟨o',(hs.2 b (Nat.ne_of_lt (Nat.lt_of_lt_of_le (Heap.lt_size e) (I.ok.cab x c hfn hc)))).trans e1⟩
  ·by_cases hj:j=i
   ·subst hj
    rw[hi] at e1;cases e1
    rw[List.getElem?_set_self hiσ] at e2
    cases e2
    exact⟨u,r,.inr ⟨.inl hk,c,hc,hc'⟩⟩
   ·rw[List.getElem?_set_ne (Ne.symm hj)] at e2
    obtain⟨u',r',q⟩:=hl j y v' e1 e2 e3
    refine⟨u',r',?_⟩
    rcases q with q | ⟨k,c',e,z'⟩
    ·exact .inl q
    ·refine .inr ⟨k,c',e,z'.sameBut hs ?_⟩
     rintro rfl
     exact hj (zi5 hN e1 (I.ok.inj _ _ _ e hc ▸ hi))
  ·by_cases hcc:c'=c
   ·subst hcc;exact⟨_,hc'⟩
   ·obtain⟨w2,z2⟩:=I.cell y c' e
    exact⟨w2,z2.sameBut hs hcc⟩
  ·obtain⟨e,n,ne,nf,d⟩:=I.pin p hp
   refine⟨(hs.2 p.1 ?_).trans e,n,ne,nf,d⟩
   intro q
   rw[q,hoc] at e
   have q':oc=p.2:=Option.some.inj e
   exact d w' (by rw[←q'];exact hocd)
theorem zkY {M:Model} {A:Around} {E:Value→Shared→Prop} {i:Nat} {x:Str} {v:V} {u:Value} {Q:Unit→Shared→Prop} (I:Inv X pins σ H s) (hN:X.N.Nodup) (hi:X.N[i]? = some x) (hx:Loc X.env.scope x) (r:RelV v u)
  (h:∀s',Inv X pins (σ.set i (some v)) H s'→Q () s') (hf:X.fn x=true∨X.env.scope.names.lookup x=some .local:=by first | exact .inl rfl | exact .inr rfl | assumption):wpAny M A (storeName X.env x u) Q E s :=
 zjr I hN hi hx r (λs' I' _=>h s' I') hf
theorem Inv.call' {s':Shared} {ch:List Addr} (I:Inv X pins σ H s) (ho:s'.os=s.os) (u:Un (frs X.stack) ch H H' s.heap s'.heap) (hok:HOk X.prog X.w H' s'.heap) (hg:AllBare s'.gens)
  (hch:∀b∈ch,(b∈X.ex∨X.s_0.heap.objs.size≤b)∧b≠X.env.locals∧(∀x c,X.env.cells.lookup x=some c→c≠b)∧∀p∈X.pn++pins,p.1≠b):Inv X pins σ H' s':=by
 obtain⟨h',g',d',t',o'⟩:=s'
 have e:o'=s.os:=ho
 subst e
 exact I.call (g':=g') (t':=t') (d':=d') u hok hg hch
end
abbrev XK:=Value→Option Addr→Hp→Prop
abbrev St:=List (Option V)
abbrev VK:=V→Hp→Prop
abbrev TE:=St→Hp→VK→Prop
abbrev TT:=St→Hp→(Bool→Hp→Prop)→Prop
abbrev TA:=St→Hp→(List V→Hp→Prop)→Prop
structure Ends where
 nx:St→Hp→Prop
 rt:VK
 bk:St→Hp→Prop:=λ_ _=>False
 ct:St→Hp→Prop:=λ_ _=>False
abbrev TS:=Ends→St→Hp→Prop
def EP (X:Cx) (pins:List (Addr×Obj)) (σ:St) (Q:VK) (u:Value) (s':Shared):Prop:=∃v H',Inv X pins σ H' s'∧RelV v u∧Q v H'
def TP (X:Cx) (pins:List (Addr×Obj)) (σ:St) (Q:Bool→Hp→Prop) (b:Bool) (s':Shared):Prop:=∃H',Inv X pins σ H' s'∧Q b H'
def AP (X:Cx) (pins:List (Addr×Obj)) (σ:St) (Q:List V→Hp→Prop) (us:List Value) (s':Shared):Prop:=∃vs H',Inv X pins σ H' s'∧Vals vs us∧Q vs H'
def SP (X:Cx) (pins:List (Addr×Obj)) (D:Ends) (f:Flow) (s':Shared):Prop :=
 match f with
 | .next=>∃σ' H',Inv X pins σ' H' s'∧D.nx σ' H'
 | .brk=>∃σ' H',Inv X pins σ' H' s'∧D.bk σ' H'
 | .cont=>∃σ' H',Inv X pins σ' H' s'∧D.ct σ' H'
 | .ret u=>∃v σ' H',Inv X pins σ' H' s'∧RelV v u∧D.rt v H'
def PE (X:Cx) (e:Expr) (t:TE):Prop :=
 ∀(pins:List (Addr×Obj)) (s:Shared) (σ:St) (H:Hp) (Q:VK),Inv X pins σ H s→t σ H Q→wpAny (model X.prog X.w) X.A (eval e X.env) (EP X pins σ Q) X.xe s
def PT (X:Cx) (e:Expr) (t:TT):Prop :=
 ∀(pins:List (Addr×Obj)) (s:Shared) (σ:St) (H:Hp) (Q:Bool→Hp→Prop),Inv X pins σ H s→t σ H Q→wpAny (model X.prog X.w) X.A (isTrue e X.env (eval e X.env)) (TP X pins σ Q) X.xe s
def PW (X:Cx) (e:Expr) (t:TT):Prop :=
 ∀(whole:Sem Value) (pins:List (Addr×Obj)) (s:Shared) (σ:St) (H:Hp) (Q:Bool→Hp→Prop),Inv X pins σ H s→t σ H Q→wpAny (model X.prog X.w) X.A (isTrue e X.env whole) (TP X pins σ Q) X.xe s
theorem PW.pt {X:Cx} {e:Expr} {t:TT} (h:PW X e t):PT X e t:=h _
def PA (X:Cx) (es:List Expr) (t:TA):Prop :=
 ∀(pos:Pos) (pins:List (Addr×Obj)) (s:Shared) (σ:St) (H:Hp) (Q:List V→Hp→Prop),Inv X pins σ H s→t σ H Q→wpAny (model X.prog X.w) X.A (spliced (backTo pos (starEach es X.env))) (AP X pins σ Q) X.xe s
def PS (X:Cx) (st:Stmt) (t:TS):Prop :=
 ∀(pins:List (Addr×Obj)) (s:Shared) (σ:St) (H:Hp) (D:Ends),Inv X pins σ H s→t D σ H→wpAny (model X.prog X.w) X.A (exec st X.env) (SP X pins D) X.xe s
def PSs (X:Cx) (st:List Stmt) (t:TS):Prop :=
 ∀(pins:List (Addr×Obj)) (s:Shared) (σ:St) (H:Hp) (D:Ends),Inv X pins σ H s→t D σ H→wpAny (model X.prog X.w) X.A (execs st X.env) (SP X pins D) X.xe s
theorem thn {α:Type} {t:Sem α} {Q Q':α→Shared→Prop} {M:Model} {A:Around} {E:Value→Shared→Prop} {s:Shared} (h:wpAny M A t Q E s) (hQ:∀a s,Q a s→Q' a s):wpAny M A t Q' E s:=wpAny_mono h hQ λ_ _ x=>x
end L2
namespace L2
open PySem PySem.Spec PyProof.Rows
section
variable {X : Cx}
theorem bin {a b:Expr} {ta tb:TE} (ha:PE X a ta) (hb:PE X b tb) {pins:List (Addr×Obj)} {s:Shared} {σ:St} {H:Hp} {R:V→V→Hp→Prop} (I:Inv X pins σ H s) (h:ta σ H λx H1=>tb σ H1 λy H2=>R x y H2)
  {α:Type} {Q:α→Shared→Prop} {f:Value→Value→Sem α}
  (hf:∀v u s2 x y H2,Inv X pins σ H2 s2→RelV x v→RelV y u→R x y H2→wpAny (model X.prog X.w) X.A (f v u) Q X.xe s2) :
  wpAny (model X.prog X.w) X.A (eval a X.env) (λv s₁=>wpAny (model X.prog X.w) X.A (eval b X.env) (λu s₂=>wpAny (model X.prog X.w) X.A (f v u) Q X.xe s₂) X.xe s₁) X.xe s:=by
 refine thn (ha pins s σ H _ I h) λv s1 ⟨x,H1,I1,r1,q1⟩=>?_
 refine thn (hb pins s1 σ H1 _ I1 q1) λu s2 ⟨y,H2,I2,r2,q2⟩=>?_
 exact hf v u s2 x y H2 I2 r1 r2 q2
def tVar (i:Nat):TE:=λσ H Q=>∃v,σ[i]? = some (some v)∧Q v H
def tC (v:V):TE:=λ_ H Q=>Q v H
theorem zqY {i:Nat} {x:Str} {pos:Pos} (hN:X.N[i]? = some x) (hv:Vis X.env.scope x) (hd:(x == ("__debug__":Str))=false:=by decide) (hcd:(x == ("__classdict__":Str))=false:=by decide):PE X (.Name x pos) (tVar i):=by
 intro pins s σ H Q I h
 obtain⟨v,e,h⟩:=h
 obtain⟨m,hn,hl⟩:=I.loc
 obtain⟨u,r,l⟩:=hl i x v hN e hv
 have fin:EP X pins σ Q u s:=⟨v,H,I,r,h⟩
 rcases l with ⟨hk,hm⟩ | ⟨hk,c,hc,hcell⟩
 ·exact wpAny_Name (wpAny_loadName_local I.ok.kind hk hn hm fin) hd
 ·rcases hk with hk | hk
  ·exact wpAny_Name (wpAny_loadName_cell I.ok.kind hk hc hcell fin) hd
  ·exact wpAny_Name (wpAny_loadName_free I.ok.kind hk hc hcell fin hcd) hd
theorem zbN {i j pos}:PE X (.Constant (.int i) j pos) (tC (.int i)):=λ_ _ _ H _ I h=>wpAny_Constant_int ⟨.int i,H,I.tok _,⟨_,rfl⟩,h⟩
theorem zou {b j pos}:PE X (.Constant (.bool b) j pos) (tC (.bl b)):=λ_ _ _ H _ I h=>Constant_bool ⟨.bl b,H,I,rfl,h⟩
theorem zmZ {j pos}:PE X (.Constant .none j pos) (tC .non):=λ_ _ _ H _ I h=>Constant_none ⟨.non,H,I,rfl,h⟩
theorem zbV {x j pos}:PE X (.Constant (.str x) j pos) (tC (.str x)):=λ_ _ _ H _ I h=>Calls.Constant_str ⟨.str x,H,I.tok _,⟨_,rfl⟩,h⟩
def Gl (X:Cx) (x:Str):Prop:=X.env.kindOf x=some .globalImplicit
theorem zi6 {E:Value→Shared→Prop} {pins:List (Addr×Obj)} {s:Shared} {σ:St} {H:Hp} {x:Str} {u:Value} {pos:Pos} {Q:Value→Shared→Prop} (I:Inv X pins σ H s) (hg:Gl X x) (hm:X.mg x=some u) (h:Q u s)
  (hd:(x == ("__debug__":Str))=false:=by decide):wpAny (model X.prog X.w) X.A (eval (.Name x pos) X.env) Q E s :=
 Calls.Name_function_global I.ok.kind hg (Calls.loadGlobal_global (by rw[I.ok.glob];exact I.mod.glob.keeps I.bk) hm h) hd
theorem zfJ {E:Value→Shared→Prop} {pins:List (Addr×Obj)} {s:Shared} {σ:St} {H:Hp} {x:Str} {u:Value} {pos:Pos} {Q:Value→Shared→Prop} (I:Inv X pins σ H s) (hg:Gl X x) (hm:X.mg x=none) (hv:bootBuiltins x=some u) (h:Q u s)
  (hn:x≠"__name__":=by decide) (hd:(x == ("__debug__":Str))=false:=by decide):wpAny (model X.prog X.w) X.A (eval (.Name x pos) X.env) Q E s:=by
 obtain⟨mb,h1,h2⟩:=I.mod.blt
 exact Calls.Name_function_global I.ok.kind hg (Calls.loadGlobal_builtin (by rw[I.ok.glob];exact I.mod.glob.keeps I.bk) hm (by rw[I.ok.blt];exact h1.keeps I.bk) ((h2 x hn).trans hv) h) hd
theorem zm3 {x:Str} {v:V} {u:Value} {pos:Pos} (hg:Gl X x) (hm:X.mg x=some u) (r:RelV v u) (hd:(x == ("__debug__":Str))=false:=by decide):PE X (.Name x pos) (tC v) :=
 λ_ _ _ H _ I h=>zi6 I hg hm ⟨v,H,I,r,h⟩ hd
variable {a b : Expr} {ta tb : TE} {pos : Pos}
def PC (X:Cx) (op:CmpOp) (a b:Expr) (t:TE):Prop :=
 ∀(pins:List (Addr×Obj)) (s:Shared) (σ:St) (H:Hp) (Q:VK),Inv X pins σ H s→t σ H Q →
  wpAny (model X.prog X.w) X.A (eval a X.env) (λv s₁=>wpAny (model X.prog X.w) X.A (eval b X.env) (λu s₂=>wpAny (model X.prog X.w) X.A (compareOp op v u) (EP X pins σ Q) X.xe s₂) X.xe s₁) X.xe s
theorem zoQ (b:Expr) {op:CmpOp} (h:op≠.In) (h2:op≠.NotIn):behindInMarks op b=false:=by
 have e1:(op == CmpOp.In)=false:=by cases op <;> first | rfl | exact absurd rfl h
 have e2:(op == CmpOp.NotIn)=false:=by cases op <;> first | rfl | exact absurd rfl h2
 cases b <;> simp [behindInMarks,e1,e2]
def tIsN (ta:TE):TE:=λσ H Q=>ta σ H λx H1=>Q (.bl (decide (x=.non))) H1
def zrN (ta:TE):TE:=λσ H Q=>ta σ H λx H1=>Q (.bl (!decide (x=.non))) H1
theorem RelV.none_iff {x:V} {v:Value} (r:RelV x v):(v == Value.none)=decide (x=.non):=by
 cases x with
 | non=>cases r;rfl
 | bl _=>cases r;rfl
 | int _=>obtain⟨t,rfl⟩:=r;rfl
 | str _=>obtain⟨t,rfl⟩:=r;rfl
 | byt _=>obtain⟨t,rfl⟩:=r;rfl
 | flt _=>obtain⟨t,rfl⟩:=r;rfl
 | ref _=>cases r;rfl
 | ty _=>cases r;rfl
theorem zdB {j pos'} (ha:PE X a ta):PC X .Is a (.Constant .none j pos') (tIsN ta):=by
 intro pins s σ H Q I h
 refine thn (ha pins s σ H _ I h) λv s1 ⟨x,H1,I1,r1,q1⟩=>?_
 exact Constant_none (is_none_gen ⟨.bl _,H1,I1,by rw[r1.none_iff];rfl,q1⟩)
theorem zpV {j pos'} (ha:PE X a ta):PC X .IsNot a (.Constant .none j pos') (zrN ta):=by
 intro pins s σ H Q I h
 refine thn (ha pins s σ H _ I h) λv s1 ⟨x,H1,I1,r1,q1⟩=>?_
 exact Constant_none (isnot_none_gen ⟨.bl _,H1,I1,by rw[r1.none_iff];rfl,q1⟩)
def tB (t:TE):TT:=λσ H Q=>t σ H λx H1=>∃c,x=.bl c∧Q c H1
theorem zdu {op:CmpOp} {t:TE} (h:PC X op a b t) (h1:behindInMarks op b=false:=by first | exact zoQ _ (by decide) (by decide) | rfl):PT X (.Compare a [op] [b] pos) (tB t):=by
 intro pins s σ H Q I hw
 refine wpAny_isTrue_Compare1 (thn (h pins s σ H _ I hw) λv s1 h1=>thn h1 λu s2 h2=>thn h2 λc s3 ⟨x,H1,I1,r1,q1⟩=>?_) h1
 obtain⟨d,rfl,q⟩:=q1
 cases r1
 exact wpAny_truthy_bool ⟨H1,I1,q⟩
theorem zcy {e:Expr} {t:TE} (h:PE X e t) (he:∀whole,isTrue e X.env whole=(do let v ←whole;standAt e.pos;holding [v] (truthy v)):=by intro _;rfl):PT X e (tB t):=by
 intro pins s σ H Q I hw
 refine isTrue_plain (thn (h pins s σ H _ I hw) λv s1 ⟨x,H1,I1,r1,q1⟩=>?_) (he _)
 obtain⟨d,rfl,q⟩:=q1
 cases r1
 exact wpAny_truthy_bool ⟨H1,I1,q⟩
variable {tA tB' : TT} {rest : List Expr}
def tAnd (t u:TT):TT:=λσ H Q=>t σ H λc H1=>if c=true then u σ H1 Q else Q false H1
def tOr (t u:TT):TT:=λσ H Q=>t σ H λc H1=>if c=true then Q true H1 else u σ H1 Q
def tNot (t:TT):TT:=λσ H Q=>t σ H λc H1=>Q (!c) H1
theorem zf4 (ha:PT X a tA):PW X (.BoolOp .And [a] pos) tA:=by
 intro wh pins s σ H Q I h
 refine isTrue_and (thn (ha pins s σ H Q I h) λc s1 e=>?_)
 cases c with
 | true=>exact isTrue_and_nil e
 | false=>exact e
theorem zeh (ha:PT X a tA):PW X (.BoolOp .Or [a] pos) tA:=by
 intro wh pins s σ H Q I h
 refine isTrue_or (thn (ha pins s σ H Q I h) λc s1 e=>?_)
 cases c with
 | false=>exact isTrue_or_nil e
 | true=>exact e
theorem zif (ha:PT X a tA) (hb:PW X (.BoolOp .And (b::rest) pos) tB'):PW X (.BoolOp .And (a::b::rest) pos) (tAnd tA tB'):=by
 intro wh pins s σ H Q I h
 refine isTrue_and (thn (ha pins s σ H _ I h) λc s1 ⟨H1,I1,q1⟩=>?_)
 cases c with
 | true=>exact hb wh pins s1 σ H1 Q I1 q1
 | false=>exact⟨H1,I1,q1⟩
theorem zfD (ha:PT X a tA) (hb:PW X (.BoolOp .Or (b::rest) pos) tB'):PW X (.BoolOp .Or (a::b::rest) pos) (tOr tA tB'):=by
 intro wh pins s σ H Q I h
 refine isTrue_or (thn (ha pins s σ H _ I h) λc s1 ⟨H1,I1,q1⟩=>?_)
 cases c with
 | true=>exact⟨H1,I1,q1⟩
 | false=>exact hb wh pins s1 σ H1 Q I1 q1
theorem zcW (ha:PT X a tA):PT X (.UnaryOp .Not a pos) (tNot tA):=by
 intro pins s σ H Q I h
 exact isTrue_not (ha pins s σ H (λc H1=>Q (!c) H1) I h)
def zrT (ta tb:TE):TE:=λσ H Q=>ta σ H λx H1=>∃c,x=.bl c∧if c=true then tb σ H1 Q else Q (.bl false) H1
def zrM (ta:TE):TE:=λσ H Q=>ta σ H λx H1=>∃c,x=.bl c∧Q (.bl (!c)) H1
theorem zig {op} {t:TE} (h:PE X a t):PE X (.BoolOp op [a] pos) t:=λpins s σ H Q I hw=>BoolOp_one (h pins s σ H Q I hw)
theorem zgq (ha:PE X a ta) (hb:PE X (.BoolOp .And (b::rest) pos) tb):PE X (.BoolOp .And (a::b::rest) pos) (zrT ta tb):=by
 intro pins s σ H Q I h
 refine BoolOp_and (thn (ha pins s σ H _ I h) λv s1 ⟨x,H1,I1,r1,q1⟩=>?_)
 obtain⟨c,rfl,q1⟩:=q1
 cases r1
 refine wpAny_truthy_bool ?_
 cases c with
 | true=>exact hb pins s1 σ H1 Q I1 q1
 | false=>exact⟨.bl false,H1,I1,rfl,q1⟩
theorem zpx (ha:PE X a ta):PE X (.UnaryOp .Not a pos) (zrM ta):=by
 intro pins s σ H Q I h
 refine UnaryOp_ (thn (ha pins s σ H _ I h) λv s1 ⟨x,H1,I1,r1,q1⟩=>?_)
 obtain⟨c,rfl,q1⟩:=q1
 cases r1
 exact not_of (wpAny_truthy_bool ⟨.bl (!c),H1,I1,rfl,q1⟩)
def tIf (t:TT) (ta tb:TE):TE:=λσ H Q=>t σ H λc H1=>if c=true then ta σ H1 Q else tb σ H1 Q
theorem ziN {c:Expr} (hc:PT X c tA) (ha:PE X a ta) (hb:PE X b tb):PE X (.IfExp c a b pos) (tIf tA ta tb):=by
 intro pins s σ H Q I h
 refine wpAny_IfExp (thn (hc pins s σ H _ I h) λd s1 ⟨H1,I1,q1⟩=>?_)
 cases d with
 | true=>exact ha pins s1 σ H1 Q I1 q1
 | false=>exact hb pins s1 σ H1 Q I1 q1
end
end L2
namespace L2
open PySem PySem.Spec PyProof.Rows
def SqL (K:PySem.W.Frag) (H:Hp) (a:Addr) (xs:List V):Prop :=
 Rd H a (.lst xs) ∨
  ∃(o:Obj) (its:Array Value) (n:Nat),K.lookup a=some o∧o.cls=.type "list"∧o.dict=none∧o.data=.seq its n∧its.size≤sizeLine∧Vals xs its.toList
def SqT (K:PySem.W.Frag) (H:Hp) (a:Addr) (xs:List V):Prop :=
 Rd H a (.tup xs) ∨
  ∃(o:Obj) (its:Array Value) (n:Nat),K.lookup a=some o∧o.cls=.type "tuple"∧o.data=.seq its n∧its.size≤sizeLine∧Vals xs its.toList
def absV:Value→Option V
 | .none=>some .non
 | .bool b=>some (.bl b)
 | .int i _=>some (.int i)
 | .str x _=>some (.str x)
 | .bytes b _=>some (.byt b)
 | .float b _=>some (.flt b)
 | .ref a=>some (.ref a)
 | .type n=>some (.ty n)
 | _=>none
theorem RelV.abs {x:V} {u:Value} (r:RelV x u):absV u=some x:=by
 cases x with
 | non=>cases r;rfl
 | bl _=>cases r;rfl
 | int _=>obtain⟨t,rfl⟩:=r;rfl
 | str _=>obtain⟨t,rfl⟩:=r;rfl
 | byt _=>obtain⟨t,rfl⟩:=r;rfl
 | flt _=>obtain⟨t,rfl⟩:=r;rfl
 | ref _=>cases r;rfl
 | ty _=>cases r;rfl
theorem RelV.inj {x y:V} {u:Value} (r:RelV x u) (q:RelV y u):x=y:=Option.some.inj (r.abs.symm.trans q.abs)
theorem Vals.inj:∀{xs ys:List V} {us:List Value},Vals xs us→Vals ys us→xs=ys
 | _,_,_,.nil,.nil=>rfl
 | _,_,_,.cons r t,.cons r' t'=>by rw[r.inj r',Vals.inj t t']
section
variable {X : Cx} {pins : List (Addr × Obj)} {σ : St} {H : Hp} {s : Shared} {a : Addr} {xs ys : List V}
theorem SqL.of {K:PySem.W.Frag} (h:H a=some (.lst xs)):SqL K H a xs:=.inl (.inl h)
theorem SqT.of {K:PySem.W.Frag} (h:H a=some (.tup xs)):SqT K H a xs:=.inl (.inl h)
theorem Inv.list (I:Inv X pins σ H s) (h:SqL X.K H a xs):∃its:List Value,Vals xs its∧PlainL s.heap a its.toArray∧xs.length≤sizeLine:=by
 rcases h with h | ⟨o,its,n,hk,hc,hd,hs,hz,r⟩
 ·obtain⟨z,its,n,r,e⟩:=h.ok I.hok
  exact⟨its,r,⟨_,n,e,rfl,rfl,rfl⟩,z⟩
 ·refine⟨its.toList,r,⟨o,n,I.kIn a o hk,hc,hd,by simpa using hs⟩,?_⟩
  have e:=r.length
  simp only [Array.length_toList] at e
  omega
theorem Inv.tuple (I:Inv X pins σ H s) (h:SqT X.K H a xs):∃its:List Value,Vals xs its∧IsTup s.heap a its.toArray∧xs.length≤sizeLine:=by
 rcases h with h | ⟨o,its,n,hk,hc,hs,hz,r⟩
 ·obtain⟨z,its,r,p⟩:=h.ok I.hok
  exact⟨its,r,p,z⟩
 ·refine⟨its.toList,r,⟨o,I.kIn a o hk,hc,n,by simpa using hs⟩,?_⟩
  have e:=r.length
  simp only [Array.length_toList] at e
  omega
theorem Inv.list_inj (I:Inv X pins σ H s) (h:SqL X.K H a xs) (h':SqL X.K H a ys):xs=ys:=by
 obtain⟨its,r,⟨o,n,e,_,_,d⟩,_⟩:=I.list h
 obtain⟨its',r',⟨o',n',e',_,_,d'⟩,_⟩:=I.list h'
 rw[e] at e';cases e'
 rw[d] at d'
 injection d' with d1 _
 have:its=its':=by simpa using congrArg Array.toList d1
 subst this
 exact r.inj r'
theorem Inv.tuple_inj (I:Inv X pins σ H s) (h:SqT X.K H a xs) (h':SqT X.K H a ys):xs=ys:=by
 obtain⟨its,r,⟨o,e,_,n,d⟩,_⟩:=I.tuple h
 obtain⟨its',r',⟨o',e',_,n',d'⟩,_⟩:=I.tuple h'
 rw[e] at e';cases e'
 rw[d] at d'
 injection d' with d1 _
 have:its=its':=by simpa using congrArg Array.toList d1
 subst this
 exact r.inj r'
end
abbrev Cx.wish (X:Cx) (E:Value→Shared→Prop):Cx:={ X with xe:=E }
abbrev Cx.nox (X:Cx):Cx:=X.wish λ_ _=>False
theorem Cx.Ok.wish {X:Cx} (ok:X.Ok) (E:Value→Shared→Prop):(X.wish E).Ok :=
 ⟨ok.mod,ok.kind,ok.glob,ok.blt,ok.above,ok.inj,ok.has,ok.cab,ok.hd,ok.frames,ok.stk,ok.exf,ok.bs,ok.bsz,ok.noex,ok.exfs,ok.funs,ok.frf⟩
theorem Cx.Ok.unwish {X:Cx} {E:Value→Shared→Prop} (ok:(X.wish E).Ok):X.Ok :=
 ⟨ok.mod,ok.kind,ok.glob,ok.blt,ok.above,ok.inj,ok.has,ok.cab,ok.hd,ok.frames,ok.stk,ok.exf,ok.bs,ok.bsz,ok.noex,ok.exfs,ok.funs,ok.frf⟩
section
variable {X : Cx} {pins : List (Addr × Obj)} {σ : St} {H : Hp} {s : Shared} {E : Value → Shared → Prop}
theorem Inv.wish (I:Inv X pins σ H s) (E:Value→Shared→Prop):Inv (X.wish E) pins σ H s:=⟨I.ok.wish E,I.os,I.bare,I.base,I.loc,I.cell,I.free,I.freeC,I.pin,I.hok,I.len⟩
theorem Inv.unwish (I:Inv (X.wish E) pins σ H s):Inv X pins σ H s:=⟨I.ok.unwish,I.os,I.bare,I.base,I.loc,I.cell,I.free,I.freeC,I.pin,I.hok,I.len⟩
theorem SP.unwish {D:Ends} {f:Flow} {s':Shared} (h:SP (X.wish E) pins D f s'):SP X pins D f s':=by
 cases f with
 | next=>obtain⟨σ',H',I,q⟩:=h;exact⟨σ',H',I.unwish,q⟩
 | brk=>obtain⟨σ',H',I,q⟩:=h;exact⟨σ',H',I.unwish,q⟩
 | cont=>obtain⟨σ',H',I,q⟩:=h;exact⟨σ',H',I.unwish,q⟩
 | ret u=>obtain⟨v,σ',H',I,r,q⟩:=h;exact⟨v,σ',H',I.unwish,r,q⟩
theorem PSs.nox {st:List Stmt} {t:TS} (h:PSs X.nox st t):PSs X st t:=λpins s σ H D I hw =>
 wpAny_mono (h pins s σ H D (I.wish _) hw) (λ_ _ q=>q.unwish) λ_ _ z=>False.elim z
end
section
variable {X : Cx} {st : Stmt} {rest : List Stmt} {t u : TS} {e : Expr} {te : TE} {pos : Pos}
def zrO:TS:=λD σ H=>D.nx σ H
def tSeq (t u:TS):TS:=λD σ H=>t { D with nx:=u D } σ H
theorem zbM:PSs X [] zrO:=λ_ _ σ H _ I h=>wpAny_execs_nil ⟨σ,H,I,h⟩
theorem zbC (h1:PS X st t) (h2:PSs X rest u):PSs X (st::rest) (tSeq t u):=by
 intro pins s σ H D I h
 refine wpAny_execs_cons (thn (h1 pins s σ H { D with nx:=u D } I h) λf s1 q=>?_)
 cases f with
 | next =>
  obtain⟨σ',H',I',q⟩:=q
  exact h2 pins s1 σ' H' D I' q
 | ret v=>exact q
 | brk=>exact q
 | cont=>exact q
theorem zbF (h1:PS X st t):PSs X [st] t:=by
 intro pins s σ H D I h
 refine wpAny_execs_cons (thn (h1 pins s σ H D I h) λf s1 q=>?_)
 cases f with
 | next=>exact wpAny_execs_nil q
 | ret v=>exact q
 | brk=>exact q
 | cont=>exact q
theorem Inv.quiet {pins:List (Addr×Obj)} {σ:St} {H:Hp} {s:Shared} (I:Inv X pins σ H s):interactive X.env=false:=by simp [interactive,I.ok.kind]
def zrQ (te:TE):TS:=λD σ H=>te σ H λ_ H1=>D.nx σ H1
theorem zcf (he:PE X e te) (hs:swapsWith e none pos.line X.env=pure false:=by rfl):PS X (.Expr e pos) (zrQ te):=by
 intro pins s σ H D I h
 exact wpAny_Expr_any (thn (he pins s σ H _ I h) λv s1 ⟨x,H1,I1,r1,q1⟩=>⟨σ,H1,I1,q1⟩) I.quiet hs
def tRet (te:TE):TS:=λD σ H=>te σ H D.rt
theorem zbJ (he:PE X e te):PS X (.Return (some e) pos) (tRet te):=by
 intro pins s σ H D I h
 exact wpAny_Return_some (thn (he pins s σ H _ I h) λv s1 ⟨x,H1,I1,r1,q1⟩=>⟨x,σ,H1,I1,r1,q1⟩)
def tIfS (c:TT) (t u:TS):TS:=λD σ H=>c σ H λb H1=>if b=true then t D σ H1 else u D σ H1
theorem zbU {c:Expr} {a b:List Stmt} {tc:TT} (hc:PT X c tc) (ha:PSs X a t) (hb:PSs X b u):PS X (.If c a b pos) (tIfS tc t u):=by
 intro pins s σ H D I h
 refine wpAny_If (thn (hc pins s σ H _ I h) λd s1 ⟨H1,I1,q1⟩=>?_)
 cases d with
 | true=>exact ha pins s1 σ H1 D I1 q1
 | false=>exact hb pins s1 σ H1 D I1 q1
end
abbrev TG:=V→St→Hp→(St→Hp→Prop)→Prop
abbrev TGs:=List V→St→Hp→(St→Hp→Prop)→Prop
def PG (X:Cx) (target:Expr) (t:TG):Prop :=
 ∀(pins:List (Addr×Obj)) (s:Shared) (σ:St) (H:Hp) (v:V) (u:Value) (Q:St→Hp→Prop),Inv X pins σ H s→RelV v u→t v σ H Q →
  wpAny (model X.prog X.w) X.A (assign target X.env u) (λ_ s'=>∃σ' H',Inv X pins σ' H' s'∧Q σ' H') X.xe s
def PGs (X:Cx) (ts:List Expr) (t:TGs):Prop :=
 ∀(pins:List (Addr×Obj)) (s:Shared) (σ:St) (H:Hp) (vs:List V) (us:List Value) (Q:St→Hp→Prop),Inv X pins σ H s→Vals vs us→t vs σ H Q →
  wpAny (model X.prog X.w) X.A (assignInOrder ((assignEach ts X.env).map (·.2)) us) (λ_ s'=>∃σ' H',Inv X pins σ' H' s'∧Q σ' H') X.xe s
abbrev zsa:=V→V→V→Hp→(Hp→Prop)→Prop
def PSet (X:Cx) (t:zsa):Prop :=
 ∀(pins:List (Addr×Obj)) (s:Shared) (σ:St) (H:Hp) (o i v:V) (ov iv u:Value) (Q:Hp→Prop),Inv X pins σ H s→RelV o ov→RelV i iv→RelV v u→t o i v H Q →
  wpAny (model X.prog X.w) X.A (setItem ov iv u) (λ_ s'=>∃H',Inv X pins σ H' s'∧Q H') X.xe s
section
variable {X : Cx} {pos : Pos}
def zeM (i:Nat):TG:=λv σ H Q=>Q (σ.set i (some v)) H
theorem zbW {i:Nat} {x:Str} (hN:X.N.Nodup) (hi:X.N[i]? = some x) (hx:Loc X.env.scope x) (hf:X.fn x=true∨X.env.scope.names.lookup x=some .local:=by first | exact .inl rfl | exact .inr rfl | assumption):PG X (.Name x pos) (zeM i):=by
 intro pins s σ H v u Q I r h
 exact wpAny_assign_Name (zkY I hN hi hx r (λs' I'=>⟨_,H,I',h⟩) hf)
def zqB:TGs:=λvs σ H Q=>vs=[]∧Q σ H
def zhp (t:TG) (u:TGs):TGs:=λvs σ H Q=>∃v r,vs=v::r∧t v σ H λσ' H'=>u r σ' H' Q
theorem zd6:PGs X [] zqB:=by
 intro pins s σ H vs us Q I r h
 obtain⟨e,h⟩:=h
 subst e
 cases r
 exact assignInOrder_nil ⟨σ,H,I,h⟩
theorem zck {e:Expr} {es:List Expr} {t:TG} {u:TGs} (h1:PG X e t) (h2:PGs X es u)
  (hs:(assignEach (e::es) X.env).map (·.2)=assign e X.env::(assignEach es X.env).map (·.2):=by rfl):PGs X (e::es) (zhp t u):=by
 intro pins s σ H vs us Q I r h
 obtain⟨v,vr,e1,h⟩:=h
 subst e1
 cases r with
 | cons r rr =>
  rw[hs]
  refine assignInOrder_cons (thn (h1 pins s σ H _ _ _ I r h) λ_ s1 ⟨σ1,H1,I1,q1⟩=>?_)
  exact h2 pins s1 σ1 H1 _ _ Q I1 rr q1
def zqc (K:PySem.W.Frag) (n:Nat) (t:TGs):TG:=λv σ H Q=>∃a xs,v=.ref a∧SqT K H a xs∧xs.length=n∧t xs σ H Q
theorem zpu {es:List Expr} {k:Nat} {t:TGs} {n:Nat} (hc:X.calm=true) (h:PGs X es t)
  (hn:(assignEach es X.env).length=n:=by rfl) (hst:(assignEach es X.env).findIdx? (·.1)=none:=by rfl):PG X (.Tuple es k pos) (zqc X.K n t):=by
 intro pins s σ H v u Q I r hw
 obtain⟨a,xs,e1,hq,hl,hw⟩:=hw
 subst e1
 cases r
 obtain⟨its,rv,ht,hz⟩:=I.tuple hq
 refine assign_Tuple_tuple (I.ok.hd hc) ht (by simp [hn,←hl,rv.length]) hst λh' hx=>?_
 have I1:Inv X pins σ H { s with heap:=h' }:=I.kept (t':=s.toks) λb o e=>hx b o (Nat.ne_of_lt (Heap.lt_size e)) e
 exact h pins _ σ H xs _ Q I1 (by simpa using rv) hw
def gSub (to ti:TE) (t:zsa):TG:=λv σ H Q=>to σ H λo H1=>ti σ H1 λi H2=>t o i v H2 λH3=>Q σ H3
theorem zpv {o i:Expr} {to ti:TE} {t:zsa} (ho:PE X o to) (hi:PE X i ti) (hs:PSet X t)
  (ha:∀v,assign (.Subscript o i pos) X.env v=(do
   let ov ←holding [v] (eval o X.env)
   let iv ←holding [v,ov] (eval i X.env)
   standAt pos
   holding [v,ov,iv] (setItem ov iv v)
   release [v,ov,iv] []):=by intro _;rfl):PG X (.Subscript o i pos) (gSub to ti t):=by
 intro pins s σ H v u Q I r h
 rw[ha]
 refine wpAny_bind (wpAny_holding (thn (ho pins s σ H _ I h) λov s1 ⟨x,H1,I1,r1,q1⟩=>?_))
 refine wpAny_bind (wpAny_holding (thn (hi pins s1 σ H1 _ I1 q1) λiv s2 ⟨y,H2,I2,r2,q2⟩=>?_))
 refine wpAny_bind (wpAny_standAt (wpAny_bind (wpAny_holding (thn (hs pins s2 σ H2 x y v ov iv u _ I2 r1 r2 r q2) λ_ s3 ⟨H3,I3,q3⟩=>?_))))
 exact wpAny_release ⟨σ,H3,I3,q3⟩
def zrS (te:TE) (g:TG):TS:=λD σ H=>te σ H λx H1=>g x σ H1 D.nx
theorem zpr {tg e:Expr} {te:TE} {g:TG} (he:PE X e te) (hg:PG X tg g) (hs:swapsWithSole [tg] e pos.line X.env=pure false:=by rfl) (hw:swappedStores [tg] e X.env=pure none:=by rfl)
  (h1:(assignEach [tg] X.env).map (·.2)=[assign tg X.env]:=by rfl):PS X (.Assign [tg] e pos) (zrS te g):=by
 intro pins s σ H D I h
 refine wpAny_Assign_stores (thn (he pins s σ H _ I h) λv s1 ⟨x,H1,I1,r1,q1⟩=>?_) hs hw
 rw[h1]
 exact thn (hg pins s1 σ H1 x v _ I1 r1 q1) λ_ s2 q=>q
theorem zbP {i:Nat} {x:Str} {e:Expr} {te:TE} {pos':Pos} (hN:X.N.Nodup) (hi:X.N[i]? = some x) (hx:Loc X.env.scope x) (he:PE X e te) (hs:swapsWith e (some (.Name x pos')) pos.line X.env=pure false:=by rfl) (hf:X.fn x=true∨X.env.scope.names.lookup x=some .local:=by first | exact .inl rfl | exact .inr rfl | assumption) :
  PS X (.Assign [.Name x pos'] e pos) (zrS te (zeM i)):=by
 intro pins s σ H D I h
 refine wpAny_Assign_Name (thn (he pins s σ H _ I h) λv s1 ⟨y,H1,I1,r1,q1⟩=>?_) hs
 exact zkY I1 hN hi hx r1 (λs2 I2=>⟨_,H1,I2,q1⟩) hf
end
section
variable {X : Cx} {pos : Pos}
def zpf (c:TT) (tb:TS):TS:=λD σ H=>∃W:Nat→St→Hp→Prop,(∃m,W m σ H)∧∀m σ H,W m σ H →
 c σ H λb H1=>if b=true then ∃N:St→Hp→Prop,(∀σ' H',N σ' H'→∃m',m' < m∧W m' σ' H')∧tb { D with nx:=N,ct:=N,bk:=D.nx } σ H1 else D.nx σ H1
theorem zlc {c:Expr} {body:List Stmt} {tc:TT} {tb:TS} (hp:PassesOwn (model X.prog X.w) X.A X.env X.xe) (hc:PT X c tc) (hb:PSs X body tb):PS X (.While c body [] pos) (zpf tc tb):=by
 intro pins s σ H D I h
 obtain⟨W,⟨m0,w0⟩,turn⟩:=h
 refine wpAny_While (codeAny_whileLoop (λn s'=>∃σ' H',Inv X pins σ' H' s'∧W n σ' H') ?_ m0 ⟨σ,H,I,w0⟩)
 rintro n s1 ⟨σ1,H1,I1,w1⟩
 refine wpAny_passesOwn hp (thn (hc pins s1 σ1 H1 _ I1 (turn n σ1 H1 w1)) λb s2 ⟨H2,I2,q2⟩=>?_)
 cases b with
 | true =>
  obtain⟨N,hN,q2⟩:=q2
  rw[if_pos rfl]
  refine wpAny_passesOwn hp (thn (hb pins s2 σ1 H2 _ I2 q2) λf s3 q3=>?_)
  cases f with
  | next =>
   obtain⟨σ3,H3,I3,n3⟩:=q3
   obtain⟨m',hm,w3⟩:=hN σ3 H3 n3
   exact⟨m',hm,σ3,H3,I3,w3⟩
  | cont =>
   obtain⟨σ3,H3,I3,n3⟩:=q3
   obtain⟨m',hm,w3⟩:=hN σ3 H3 n3
   exact⟨m',hm,σ3,H3,I3,w3⟩
  | brk=>exact q3
  | ret v=>exact q3
 | false =>
  rw[if_neg Bool.false_ne_true]
  exact wpAny_execs_nil ⟨σ1,H2,I2,q2⟩
end
structure It where
 go:Nat→Hp→Prop
 yld:Nat→Hp→V→Hp→Prop
 stop:Nat→Hp→Prop
def zh1 (X:Cx) (pins:List (Addr×Obj)) (H:Hp) (b:Addr):Prop :=
 H b=none∧b≠X.env.locals∧b ∉ X.fs∧(b∈X.ex∨X.s_0.heap.objs.size≤b)∧(∀x c,X.env.cells.lookup x=some c→c≠b)∧∀p∈X.pn++pins,p.1≠b
theorem Inv.fpOk {X:Cx} {pins:List (Addr×Obj)} {σ:St} {H H':Hp} {s:Shared} {b:Addr} (I:Inv X pins σ H s) (hb:s.heap.objs.size≤b) (hn:H' b=none):zh1 X pins H' b:=by
 refine⟨hn,Nat.ne_of_gt (Nat.lt_of_lt_of_le I.lt hb),I.nofs hb,.inr (Nat.le_trans I.sz hb),λx c e z=>?_,λp hp z=>?_⟩
 ·obtain⟨v,q⟩:=I.cell x c e
  exact absurd (Nat.lt_of_lt_of_le q.lt (by rw[z];exact hb)) (Nat.lt_irrefl _)
 ·exact absurd (Nat.lt_of_lt_of_le (Heap.lt_size (I.pin p hp).1) (by rw[z];exact hb)) (Nat.lt_irrefl _)
structure Turn (P:Program) (w:World) (K:PySem.W.Frag) (tg:Expr) (J:It) (fp:List Addr) (it:Addr) (tn:Nat→Heap→Prop):Prop where
 mem:it∈fp
 obj:∀i h,tn i h→∀b∈fp,∃o,h.get? b=some o∧∀v,o.data≠.cell v
 keep:∀i h h',tn i h→(∀b∈fp,∀o,h.get? b=some o→h'.get? b=some o)→tn i h'
 item:∀(X:Cx),X.prog=P→X.w=w→X.K=K→X.calm=true→∀(i:Nat) (pins:List (Addr×Obj)) (s:Shared) (σ:St) (H:Hp) (E:Value→Shared→Prop),Inv X pins σ H s→(∀b∈fp,zh1 X pins H b)→tn i s.heap→J.go i H →
  wpAny (model P w) X.A (pyNext (.ref it)) (λr s1=>∃u,r=some u ∧
   wpAny (model P w) X.A (letOwnedTupleGo tg (.ref it) u) (λ_ s2=>∃x H',Inv X pins σ H' s2∧RelV x u∧J.yld i H x H'∧tn (i + 1) s2.heap∧∀b∈fp,H' b=none) E s1) E s
 done:∀(X:Cx),X.prog=P→X.w=w→X.K=K→X.calm=true→∀(i:Nat) (pins:List (Addr×Obj)) (s:Shared) (σ:St) (H:Hp) (E:Value→Shared→Prop),Inv X pins σ H s→(∀b∈fp,zh1 X pins H b)→tn i s.heap→J.stop i H →
  wpAny (model P w) X.A (pyNext (.ref it)) (λr s1=>r=none∧Inv X pins σ H s1) E s
 self:∀(A:Around) (i:Nat) (s:Shared) (Q:Value→Shared→Prop) (E:Value→Shared→Prop),tn i s.heap→Q (.ref it) s→wpAny (model P w) A (pyIter (.ref it)) Q E s
abbrev TI:=St→Hp→(It→Hp→Prop)→Prop
def PIE (X:Cx) (pins:List (Addr×Obj)) (σ:St) (tg:Expr) (R:It→Hp→Prop) (itv:Value) (s2:Shared):Prop :=
 ∃(it:Addr) (fp:List Addr) (tn:Nat→Heap→Prop) (J:It) (H':Hp),itv=.ref it∧Inv X pins σ H' s2∧Turn X.prog X.w X.K tg J fp it tn∧tn 0 s2.heap∧(∀b∈fp,zh1 X pins H' b)∧R J H'
def PI (X:Cx) (tg iter:Expr) (wi:TI):Prop :=
 ∀(pins:List (Addr×Obj)) (s:Shared) (σ:St) (H:Hp) (R:It→Hp→Prop),Inv X pins σ H s→wi σ H R →
  wpAny (model X.prog X.w) X.A (eval iter X.env) (λv s1=>wpAny (model X.prog X.w) X.A (pyIter v) (PIE X pins σ tg R) X.xe s1) X.xe s
theorem zoZ {M:Model} {A:Around} {E:Value→Shared→Prop} {s:Shared} {tg:Expr} {it:Addr} {u:Value} {o:Obj} {n:String} {vs:Array Value} {Q:Unit→Shared→Prop} (ho:s.heap.get? it=some o) (hc:o.cls=.type n) (hd:o.data=.fields vs)
    (hn:["enumerate","zip","dict_itemiterator","dict_reverseitemiterator","odict_iterator","itertools.zip_longest","itertools.pairwise"].contains n=false) (hQ:Q () s):wpAny M A (letOwnedTupleGo tg (.ref it) u) Q E s:=by
  unfold letOwnedTupleGo
  cases tg <;> first
    | exact wpAny_pure hQ
    | (cases u <;> first
        | exact wpAny_pure hQ
        | (refine wpAny_bind (wpAny_load ho ?_)
           rw[hc,hd]
           show wpAny M A (if (["enumerate","zip","dict_itemiterator","dict_reverseitemiterator","odict_iterator","itertools.zip_longest","itertools.pairwise"].contains n && vs[0]? == some (rawInt _))=true then _ else _) Q E s
           rw[if_neg (by intro h;rw[hn,Bool.false_and] at h;cases h)]
           exact wpAny_pure hQ))
def Itl (K:PySem.W.Frag) (a:Addr):It :=
 ⟨λi H=>∃xs x,SqL K H a xs∧xs[i]? = some x,λi H x H'=>H'=H∧∀xs,SqL K H a xs→xs[i]? = some x,λi H=>∃xs,SqL K H a xs∧xs.length≤i⟩
def Itt (K:PySem.W.Frag) (a:Addr):It :=
 ⟨λi H=>∃xs x,SqT K H a xs∧xs[i]? = some x,λi H x H'=>H'=H∧∀xs,SqT K H a xs→xs[i]? = some x,λi H=>∃xs,SqT K H a xs∧xs.length≤i⟩
def Itr (lo:Int) (n:Nat):It:=⟨λi _=>i < n,λi H x H'=>H'=H∧x=.int (lo + i),λi _=>n≤i⟩
theorem zmu {P:Program} {w:World} {K:PySem.W.Frag} {tg:Expr} (a it:Addr):Turn P w K tg (Itl K a) [it] it (λi h=>h.IsListIter it a i) where
 mem:=by simp
 obj:=λi h st b hb=>by
  have e:b=it:=by simpa using hb
  subst e
  obtain⟨o,e,c,d⟩:=st
  exact⟨o,e,λv z=>by rw[d] at z;cases z⟩
 keep:=λi h h' st k=>st.at λo e=>k it (by simp) o e
 item:=by
  intro X hP hw hK hc i pins s σ H E I hf st hg
  subst hP hw hK
  obtain⟨xs,x,hq,hx⟩:=hg
  obtain⟨its,rv,p,hz⟩:=I.list hq
  obtain⟨u,hu,ru⟩:=rv.get hx
  obtain⟨f0,f1,f2,f3,f4,f5⟩:=hf it (by simp)
  refine wpAny_pyNext_list_item st p.isList (x:=u) (by simpa using hu) λh' st' sb=>?_
  have I1:Inv X pins σ H { s with heap:=h' }:=I.turned (t':=s.toks) (λb o hb e=>(sb.2 b hb).trans e) f0 f1 f3 f4 f5
  obtain⟨o,e,c,d⟩:=id st'
  exact⟨u,rfl,zoZ (s:={ s with heap:=h' }) e c d (by decide) ⟨x,H,I1,ru,⟨rfl,λys hy=>by rw[I.list_inj hy hq];exact hx⟩,st',λb hb=>(hf b hb).1⟩⟩
 done:=by
  intro X hP hw hK hc i pins s σ H E I hf st hg
  subst hP hw hK
  obtain⟨xs,hq,hx⟩:=hg
  obtain⟨its,rv,p,hz⟩:=I.list hq
  obtain⟨f0,f1,f2,f3,f4,f5⟩:=hf it (by simp)
  have hl:=rv.length
  exact wpAny_pyNext_list_end (I.ok.hd hc) st p.isList (by simp;omega) λh' eb=>⟨rfl,I.turned (t':=s.toks) (λb o hb e=>eb b o hb e) f0 f1 f3 f4 f5⟩
 self:=λ_ _ _ _ _ st h=>wpAny_pyIter_listiter st h
theorem zlM {P:Program} {w:World} {K:PySem.W.Frag} {tg:Expr} (a it:Addr):Turn P w K tg (Itt K a) [it] it (λi h=>h.IsTupleIter it a i) where
 mem:=by simp
 obj:=λi h st b hb=>by
  have e:b=it:=by simpa using hb
  subst e
  obtain⟨o,e,c,d⟩:=st
  exact⟨o,e,λv z=>by rw[d] at z;cases z⟩
 keep:=λi h h' st k=>st.at λo e=>k it (by simp) o e
 item:=by
  intro X hP hw hK hc i pins s σ H E I hf st hg
  subst hP hw hK
  obtain⟨xs,x,hq,hx⟩:=hg
  obtain⟨its,rv,p,hz⟩:=I.tuple hq
  obtain⟨u,hu,ru⟩:=rv.get hx
  obtain⟨f0,f1,f2,f3,f4,f5⟩:=hf it (by simp)
  refine wpAny_pyNext_tuple_item st (show s.heap.IsTuple a its.toArray from p) (x:=u) (by simpa using hu) λh' st' sb=>?_
  have I1:Inv X pins σ H { s with heap:=h' }:=I.turned (t':=s.toks) (λb o hb e=>(sb.2 b hb).trans e) f0 f1 f3 f4 f5
  obtain⟨o,e,c,d⟩:=id st'
  exact⟨u,rfl,zoZ (s:={ s with heap:=h' }) e c d (by decide) ⟨x,H,I1,ru,⟨rfl,λys hy=>by rw[I.tuple_inj hy hq];exact hx⟩,st',λb hb=>(hf b hb).1⟩⟩
 done:=by
  intro X hP hw hK hc i pins s σ H E I hf st hg
  subst hP hw hK
  obtain⟨xs,hq,hx⟩:=hg
  obtain⟨its,rv,p,hz⟩:=I.tuple hq
  obtain⟨f0,f1,f2,f3,f4,f5⟩:=hf it (by simp)
  have hl:=rv.length
  exact wpAny_pyNext_tuple_end (I.ok.hd hc) st (show s.heap.IsTuple a its.toArray from p) (by simp;omega) λh' eb=>⟨rfl,I.turned (t':=s.toks) (λb o hb e=>eb b o hb e) f0 f1 f3 f4 f5⟩
 self:=λ_ _ _ _ _ st h=>wpAny_pyIter_tupleiter st h
theorem zlN {P:Program} {w:World} {K:PySem.W.Frag} {tg:Expr} (it:Addr) (lo:Int) (n:Nat):Turn P w K tg (Itr lo n) [it] it (λi h=>IsRangeIter h it (lo + (i:Nat) * 1) ((n:Int) - (i:Nat)) 1) where
 mem:=by simp
 obj:=λi h st b hb=>by
  have e:b=it:=by simpa using hb
  subst e
  exact⟨_,st,λv z=>by
   have z':Data.fields _=Data.cell v:=z
   cases z'⟩
 keep:=λi h h' st k=>k it (by simp) _ st
 item:=by
  intro X hP hw hK hc i pins s σ H E I hf st hg
  subst hP hw hK
  obtain⟨f0,f1,f2,f3,f4,f5⟩:=hf it (by simp)
  have W:=Walks.range (prog:=X.prog) (w:=X.w) (I.ok.hd hc) it lo 1 n
  refine W.item i s _ _ hg st λv h' tk hv st' kk=>?_
  obtain⟨t,rfl⟩:=hv
  have I1:Inv X pins σ H { s with heap:=h',toks:=tk }:=I.turned (λb o hb e=>kk b o (by simpa using hb) e) f0 f1 f3 f4 f5
  refine⟨_,rfl,zoZ (s:={ s with heap:=h',toks:=tk }) (n:="range_iterator") st' rfl rfl (by decide) ⟨.int (lo + i),H,I1,⟨t,?_⟩,⟨rfl,rfl⟩,st',λb hb=>(hf b hb).1⟩⟩
  rw[Int.mul_one]
 done:=by
  intro X hP hw hK hc i pins s σ H E I hf st hg
  subst hP hw hK
  obtain⟨f0,f1,f2,f3,f4,f5⟩:=hf it (by simp)
  exact wpAny_pyNext_range_end (I.ok.hd hc) st (by have:n≤i:=hg;omega) λh' eb=>⟨rfl,I.turned (t':=s.toks) (λb o hb e=>eb b o hb e) f0 f1 f3 f4 f5⟩
 self:=λ_ _ _ _ _ st h=>wpAny_pyIter_rangeiter st h
end L2
namespace L2
open PySem PySem.Spec PyProof.Rows
section
variable {X : Cx} {tg : Expr}
def zr2 (K:PySem.W.Frag) (tl:TE):TI:=λσ H R=>tl σ H λx H1=>∃a,x=.ref a∧(∃xs,SqL K H1 a xs)∧R (Itl K a) H1
def iTup (K:PySem.W.Frag) (tl:TE):TI:=λσ H R=>tl σ H λx H1=>∃a,x=.ref a∧(∃xs,SqT K H1 a xs)∧R (Itt K a) H1
theorem zcD {l:Expr} {tl:TE} (hl:PE X l tl):PI X tg l (zr2 X.K tl):=by
 intro pins s σ H R I h
 refine thn (hl pins s σ H _ I h) λv s1 ⟨x,H1,I1,r1,q1⟩=>?_
 obtain⟨a,e,⟨xs,hq⟩,q⟩:=q1
 subst e
 cases r1
 obtain⟨its,rv,p,hz⟩:=I1.list hq
 refine wpAny_pyIter_list p.isList ?_
 refine⟨s1.heap.objs.size,[s1.heap.objs.size],_,_,H1,rfl,I1.kept (t':=s1.toks) λb o e=>Heap.get?_push_of_some _ e,zmu a _,⟨_,Heap.get?_push_size _ rfl,rfl,rfl⟩,λb hb=>?_,q⟩
 have e:b=s1.heap.objs.size:=by simpa using hb
 subst e
 exact I1.fpOk (Nat.le_refl _) (I1.hok.fresh (Nat.le_refl _))
theorem zqX {l:Expr} {tl:TE} (hl:PE X l tl):PI X tg l (iTup X.K tl):=by
 intro pins s σ H R I h
 refine thn (hl pins s σ H _ I h) λv s1 ⟨x,H1,I1,r1,q1⟩=>?_
 obtain⟨a,e,⟨xs,hq⟩,q⟩:=q1
 subst e
 cases r1
 obtain⟨its,rv,p,hz⟩:=I1.tuple hq
 refine wpAny_pyIter_tuple (show s1.heap.IsTuple a its.toArray from p) ?_
 refine⟨s1.heap.objs.size,[s1.heap.objs.size],_,_,H1,rfl,I1.kept (t':=s1.toks) λb o e=>Heap.get?_push_of_some _ e,zlM a _,⟨_,Heap.get?_push_size _ rfl,rfl,rfl⟩,λb hb=>?_,q⟩
 have e:b=s1.heap.objs.size:=by simpa using hb
 subst e
 exact I1.fpOk (Nat.le_refl _) (I1.hok.fresh (Nat.le_refl _))
theorem zon {pins:List (Addr×Obj)} {σ:St} {H:Hp} {s:Shared} {R:It→Hp→Prop} {E:Value→Shared→Prop} {lo hi:Int} {t u v:Tok} {tk:Nat} (I:Inv X pins σ H s) (h1:-(2 ^ 62)≤lo) (h2:lo < 2 ^ 62) (h3:-(2 ^ 62)≤hi) (h4:hi < 2 ^ 62)
  (q:R (Itr lo (hi - lo).toNat) H):wpAny (model X.prog X.w) X.A (pyIter (.ref s.heap.objs.size)) (PIE X pins σ tg R) E { s with heap:=s.heap.push { cls:=.type "range",data:=.fields #[.int lo t,.int hi u,.int 1 v] },toks:=tk }:=by
 refine wpAny_pyIter_range (IsRange.new ..) (small_one h1 h2 h3 h4) ?_
 have I1:Inv X pins σ H { s with heap:=s.heap.push { cls:=.type "range",data:=.fields #[.int lo t,.int hi u,.int 1 v] },toks:=tk }:=I.kept λb o e=>Heap.get?_push_of_some _ e
 refine⟨(s.heap.push { cls:=.type "range",data:=.fields #[.int lo t,.int hi u,.int 1 v] }).objs.size,[(s.heap.push { cls:=.type "range",data:=.fields #[.int lo t,.int hi u,.int 1 v] }).objs.size],_,_,H,rfl,
  I1.kept (t':=tk) λb o e=>Heap.get?_push_of_some _ e,zlN _ lo (hi - lo).toNat,?_,λb hb=>?_,q⟩
 ·have e1:lo + ((0:Nat):Int) * 1=lo:=by simp
  have e2:(((hi - lo).toNat:Nat):Int) - ((0:Nat):Int)=Builtin.Range.rangeSize lo hi 1:=by rw[rangeSize_one];split <;> omega
  show IsRangeIter _ _ (lo + ((0:Nat):Int) * 1) ((((hi - lo).toNat:Nat):Int) - ((0:Nat):Int)) 1
  rw[e1,e2]
  exact Heap.get?_push_size _ rfl
 ·have e:b=(s.heap.push { cls:=.type "range",data:=.fields #[.int lo t,.int hi u,.int 1 v] }).objs.size:=by simpa using hb
  subst e
  exact I1.fpOk (Nat.le_refl _) (I1.hok.fresh (Nat.le_refl _))
def zr1 (ta:TA):TI:=λσ H R=>ta σ H λvs H1=>∃j:Int,vs=[.int j]∧-(2 ^ 62)≤j∧j < 2 ^ 62∧R (Itr 0 j.toNat) H1
theorem zjE {a:Expr} {ta:TA} {p pos:Pos} (hg:Gl X "range") (hm:X.mg "range"=none) (ha:PA X [a] ta) (hs:starEach [a] X.env=[(false,eval a X.env)]:=by rfl):PI X tg (.Call (.Name "range" p) [a] [] pos) (zr1 ta):=by
 intro pins s σ H R I h
 refine Call_ (zfJ I hg hm boot_range (PyProof.Rows.callWith_type1 (thn (ha pos pins s σ H _ I h) λus s1 ⟨vs,H1,I1,r1,q1⟩=>?_) hs rfl))
 obtain⟨j,e,q1,q2,q⟩:=q1
 subst e
 cases r1 with
 | cons r rr =>
  cases rr
  obtain⟨t,rfl⟩:=r
  exact call_range_1 (zon I1 (by omega) (by omega) q1 q2 (by simpa using q))
def tFor (wi:TI) (g:TG) (tb:TS):TS:=λD σ H=>wi σ H λJ H1=>∃W:Nat→Nat→St→Hp→Prop,(∃m,W 0 m σ H1)∧∀i m σ H,W i m σ H →
 (J.stop i H∧D.nx σ H)∨(J.go i H∧∃N:St→Hp→Prop,(∀σ' H',N σ' H'→∃m',m' < m∧W (i + 1) m' σ' H')∧∀x H',J.yld i H x H'→g x σ H' λσ2 H2=>tb { D with nx:=N,ct:=N,bk:=D.nx } σ2 H2)
def zjD (fp:List Addr) (h:Heap):List (Addr×Obj):=fp.filterMap λb=>(h.get? b).map λo=>(b,o)
theorem zf9 {fp:List Addr} {h:Heap} {b:Addr} {o:Obj} (hb:b∈fp) (e:h.get? b=some o):(b,o)∈zjD fp h:=List.mem_filterMap.mpr ⟨b,hb,by rw[e];rfl⟩
theorem znj {fp:List Addr} {h:Heap} {p:Addr×Obj} (hp:p∈zjD fp h):p.1∈fp∧h.get? p.1=some p.2:=by
 obtain⟨b,hb,e⟩:=List.mem_filterMap.mp hp
 cases q:h.get? b with
 | none=>rw[q] at e;cases e
 | some o =>
  rw[q] at e
  have e':(b,o)=p:=Option.some.inj e
  subst e'
  exact⟨hb,q⟩
theorem Inv.pinned {pins:List (Addr×Obj)} {σ:St} {H:Hp} {s:Shared} {fp:List Addr} (I:Inv X pins σ H s) (hf:∀b∈fp,zh1 X pins H b) (ho:∀b∈fp,∃o,s.heap.get? b=some o∧∀v,o.data≠.cell v):Inv X (pins++zjD fp s.heap) σ H s :=
 I.pins_of λp hp=>(List.mem_append.mp hp).elim (λz=>I.pin p (List.mem_append_right _ z)) λz=>by
  obtain⟨hb,e⟩:=znj z
  obtain⟨f0,f1,f2,_⟩:=hf p.1 hb
  obtain⟨o,e',d⟩:=ho p.1 hb
  rw[e] at e';cases e'
  exact⟨e,f0,f1,f2,d⟩
theorem Inv.unpinned {pins pl:List (Addr×Obj)} {σ:St} {H:Hp} {s:Shared} (I:Inv X (pins++pl) σ H s):Inv X pins σ H s:=I.pins_of λp hp=>I.pin p (List.mem_append_right _ (List.mem_append_left _ hp))
theorem zdv {iter:Expr} {body:List Stmt} {wi:TI} {g:TG} {tb:TS} {pos:Pos} (hp:PassesOwn (model X.prog X.w) X.A X.env X.xe) (hc:X.calm=true) (hi:PI X tg iter wi) (hg:PG X tg g) (hb:PSs X body tb)
  (hs:∀x,foldedSetIterable iter X.env x=pure x:=by intro _;rfl):PS X (.For tg iter body [] pos) (tFor wi g tb):=by
 intro pins s σ H D I h
 refine wpAny_For (thn (hi pins s σ H _ I h) λv s1 h1=>thn h1 λitv s2 h2=>?_) hs
 obtain⟨it,fp,tn,J,H2,e,I2,T,st2,f2,W,⟨m0,w0⟩,turn⟩:=h2
 subst e
 have stat:∀{H':Hp},(∀b∈fp,H' b=none)→∀b∈fp,zh1 X pins H' b:=λhn b hb=>⟨hn b hb,(f2 b hb).2⟩
 refine codeAny_forLoop_any (λn s'=>∃i σ' H',Inv X pins σ' H' s'∧tn i s'.heap∧(∀b∈fp,H' b=none)∧W i n σ' H') ?_ m0 ⟨0,σ,H2,I2,st2,λb hb=>(f2 b hb).1,w0⟩
 rintro n s3 ⟨i,σ3,H3,I3,st3,fr3,w3⟩
 rcases turn i n σ3 H3 w3 with ⟨stop,qn⟩ | ⟨go,N,hN,step⟩
 ·refine wpAny_passesOwn hp (thn (T.done X rfl rfl rfl hc i pins s3 σ3 H3 X.xe I3 (stat fr3) st3 stop) λr s4 ⟨hr,I4⟩=>?_)
  subst hr
  exact wpAny_execs_nil ⟨σ3,H3,I4,qn⟩
 ·refine wpAny_passesOwn hp (thn (T.item X rfl rfl rfl hc i pins s3 σ3 H3 X.xe I3 (stat fr3) st3 go) λr s4 ⟨u,hr,h4⟩=>?_)
  subst hr
  refine wpAny_passesOwn hp (thn h4 λ_ s5 ⟨x,H5,I5,r5,y5,st5,fr5⟩=>?_)
  have I5':=I5.pinned (stat fr5) (T.obj _ _ st5)
  refine wpAny_passesOwn hp (thn (hg _ s5 σ3 H5 x u _ I5' r5 (step x H5 y5)) λ_ s6 ⟨σ6,H6,I6,q6⟩=>?_)
  refine wpAny_passesOwn hp (thn (hb _ s6 σ6 H6 _ I6 q6) λf s7 q7=>?_)
  have again:∀{σ7:St} {H7:Hp},Inv X (pins++zjD fp s5.heap) σ7 H7 s7→N σ7 H7→∃m,m < n∧∃i σ' H',Inv X pins σ' H' s7∧tn i s7.heap∧(∀b∈fp,H' b=none)∧W i m σ' H':=λ{σ7 H7} I7 n7=>by
   obtain⟨m',hm,w7⟩:=hN σ7 H7 n7
   refine⟨m',hm,i + 1,σ7,H7,I7.unpinned,T.keep _ _ _ st5 λb hb o e=>(I7.pin (b,o) (List.mem_append_right _ (List.mem_append_right _ (zf9 hb e)))).1,λb hb=>?_,w7⟩
   obtain⟨o,e,d⟩:=T.obj _ _ st5 b hb
   exact (I7.pin (b,o) (List.mem_append_right _ (List.mem_append_right _ (zf9 hb e)))).2.1
  cases f with
  | next=>obtain⟨σ7,H7,I7,n7⟩:=q7;exact again I7 n7
  | cont=>obtain⟨σ7,H7,I7,n7⟩:=q7;exact again I7 n7
  | brk=>obtain⟨σ7,H7,I7,q7⟩:=q7;exact⟨σ7,H7,I7.unpinned,q7⟩
  | ret v=>obtain⟨x7,σ7,H7,I7,r7,q7⟩:=q7;exact⟨x7,σ7,H7,I7.unpinned,r7,q7⟩
end
theorem zcR {K:PySem.W.Frag} {a:Addr} {xs:List V} {g:TG} {tb:TS} {D:Ends} {σ:St} {H:Hp} (Pv:Nat→St→Hp→Prop) (h0:Pv 0 σ H) (hl:∀i σ H,i≤xs.length→Pv i σ H→SqL K H a xs)
  (hs:∀i x σ H,xs[i]? = some x→Pv i σ H→g x σ H λσ2 H2=>tb { D with nx:=Pv (i + 1),ct:=Pv (i + 1),bk:=D.nx } σ2 H2) (hd:∀σ H,Pv xs.length σ H→D.nx σ H) :
  ∃W:Nat→Nat→St→Hp→Prop,(∃m,W 0 m σ H)∧∀i m σ H,W i m σ H →
   ((Itl K a).stop i H∧D.nx σ H)∨((Itl K a).go i H∧∃N:St→Hp→Prop,(∀σ' H',N σ' H'→∃m',m' < m∧W (i + 1) m' σ' H')∧∀x H',(Itl K a).yld i H x H'→g x σ H' λσ2 H2=>tb { D with nx:=N,ct:=N,bk:=D.nx } σ2 H2):=by
 refine⟨λi m σ H=>m=xs.length - i∧i≤xs.length∧Pv i σ H,⟨xs.length,by simp,Nat.zero_le _,h0⟩,?_⟩
 rintro i m σ H ⟨rfl,hi,p⟩
 have q:=hl i σ H hi p
 by_cases hlt:i < xs.length
 ·refine .inr ⟨⟨xs,xs[i],q,by simp [hlt]⟩,Pv (i + 1),λσ' H' p'=>⟨xs.length - (i + 1),by omega,rfl,hlt,p'⟩,λx H' y=>?_⟩
  obtain⟨e,y⟩:=y
  subst e
  exact hs i x σ _ (y xs q) p
 ·have e:i=xs.length:=by omega
  subst e
  exact .inl ⟨⟨xs,q,Nat.le_refl _⟩,hd σ H p⟩
theorem zqd {K:PySem.W.Frag} {a:Addr} {xs:List V} {g:TG} {tb:TS} {D:Ends} {σ:St} {H:Hp} (Pv:Nat→St→Hp→Prop) (h0:Pv 0 σ H) (hl:∀i σ H,i≤xs.length→Pv i σ H→SqT K H a xs)
  (hs:∀i x σ H,xs[i]? = some x→Pv i σ H→g x σ H λσ2 H2=>tb { D with nx:=Pv (i + 1),ct:=Pv (i + 1),bk:=D.nx } σ2 H2) (hd:∀σ H,Pv xs.length σ H→D.nx σ H) :
  ∃W:Nat→Nat→St→Hp→Prop,(∃m,W 0 m σ H)∧∀i m σ H,W i m σ H →
   ((Itt K a).stop i H∧D.nx σ H)∨((Itt K a).go i H∧∃N:St→Hp→Prop,(∀σ' H',N σ' H'→∃m',m' < m∧W (i + 1) m' σ' H')∧∀x H',(Itt K a).yld i H x H'→g x σ H' λσ2 H2=>tb { D with nx:=N,ct:=N,bk:=D.nx } σ2 H2):=by
 refine⟨λi m σ H=>m=xs.length - i∧i≤xs.length∧Pv i σ H,⟨xs.length,by simp,Nat.zero_le _,h0⟩,?_⟩
 rintro i m σ H ⟨rfl,hi,p⟩
 have q:=hl i σ H hi p
 by_cases hlt:i < xs.length
 ·refine .inr ⟨⟨xs,xs[i],q,by simp [hlt]⟩,Pv (i + 1),λσ' H' p'=>⟨xs.length - (i + 1),by omega,rfl,hlt,p'⟩,λx H' y=>?_⟩
  obtain⟨e,y⟩:=y
  subst e
  exact hs i x σ _ (y xs q) p
 ·have e:i=xs.length:=by omega
  subst e
  exact .inl ⟨⟨xs,q,Nat.le_refl _⟩,hd σ H p⟩
theorem zkX {c:TT} {tb:TS} {D:Ends} {σ:St} {H:Hp} (Pv:St→Hp→Prop) (μ:St→Hp→Nat) (h0:Pv σ H)
  (hs:∀σ H,Pv σ H→c σ H λb H1=>if b=true then tb { D with nx:=λσ' H'=>Pv σ' H'∧μ σ' H' < μ σ H,ct:=λσ' H'=>Pv σ' H'∧μ σ' H' < μ σ H,bk:=D.nx } σ H1 else D.nx σ H1)
  (mono:∀σ H Q Q',(∀b H1,Q b H1→Q' b H1)→c σ H Q→c σ H Q'):zpf c tb D σ H:=by
 refine⟨λm σ H=>m=μ σ H∧Pv σ H,⟨_,rfl,h0⟩,?_⟩
 rintro m σ H ⟨rfl,p⟩
 refine mono σ H _ _ (λb H1 q=>?_) (hs σ H p)
 cases b with
 | true=>exact⟨_,λσ' H' ⟨p',l⟩=>⟨_,l,rfl,p'⟩,q⟩
 | false=>exact q
end L2
namespace L2
open PySem PySem.Spec PyProof.Rows
abbrev R2:=V→V→Hp→VK→Prop
def OpR (X:Cx) (f:Value→Value→Sem Value) (r:R2):Prop :=
 ∀(pins:List (Addr×Obj)) (s:Shared) (σ:St) (H:Hp) (x y:V) (v u:Value) (Q:VK),Inv X pins σ H s→RelV x v→RelV y u→r x y H Q →
  wpAny (model X.prog X.w) X.A (f v u) (EP X pins σ Q) X.xe s
def UnR (X:Cx) (f:Value→Sem Value) (r:V→Hp→VK→Prop):Prop :=
 ∀(pins:List (Addr×Obj)) (s:Shared) (σ:St) (H:Hp) (x:V) (v:Value) (Q:VK),Inv X pins σ H s→RelV x v→r x H Q →
  wpAny (model X.prog X.w) X.A (f v) (EP X pins σ Q) X.xe s
def zjk (X:Cx) (f:Value) (r:List V→Hp→VK→Prop):Prop :=
 ∀(pins:List (Addr×Obj)) (s:Shared) (σ:St) (H:Hp) (xs:List V) (us:List Value) (Q:VK),Inv X pins σ H s→Vals xs us→r xs H Q →
  wpAny (model X.prog X.w) X.A (call f us) (EP X pins σ Q) X.xe s
def tOp (r:R2) (ta tb:TE):TE:=λσ H Q=>ta σ H λx H1=>tb σ H1 λy H2=>r x y H2 Q
def tUn (r:V→Hp→VK→Prop) (ta:TE):TE:=λσ H Q=>ta σ H λx H1=>r x H1 Q
def rI (C:Int→Int→Prop) (g:Int→Int→V):R2:=λx y H Q=>∃i j,x=.int i∧y=.int j∧C i j∧Q (g i j) H
def rI0 (g:Int→Int→V):R2:=λx y H Q=>∃i j,x=.int i∧y=.int j∧Q (g i j) H
def rU (g:Int→V):V→Hp→VK→Prop:=λx H Q=>∃i,x=.int i∧Q (g i) H
section
variable {X : Cx} {a b c : Expr} {ta tb tc : TE} {pos : Pos}
theorem zr8 (ha:PE X a ta) (hb:PE X b tb) {pins:List (Addr×Obj)} {s:Shared} {σ:St} {H:Hp} {R:V→V→Hp→Prop} (I:Inv X pins σ H s)
  (h:ta σ H λx H1=>tb σ H1 λy H2=>R x y H2) {Q:Value→Shared→Prop} {f:Value→Value→Sem Value}
  (hf:∀v u s2 x y H2,Inv X pins σ H2 s2→RelV x v→RelV y u→R x y H2→wpAny (model X.prog X.w) X.A (f v u) Q X.xe s2) :
  wpAny (model X.prog X.w) X.A (eval a X.env) (λv s₁=>wpAny (model X.prog X.w) X.A (eval b X.env) (λu s₂=>wpAny (model X.prog X.w) X.A (f v u) Q X.xe s₂) X.xe s₁) X.xe s:=by
 refine thn (ha pins s σ H _ I h) λv s1 ⟨x,H1,I1,r1,q1⟩=>?_
 refine thn (hb pins s1 σ H1 _ I1 q1) λu s2 ⟨y,H2,I2,r2,q2⟩=>?_
 exact hf v u s2 x y H2 I2 r1 r2 q2
theorem zb2 {op:Operator} {r:R2} (ho:OpR X (binaryOp op) r) (ha:PE X a ta) (hb:PE X b tb):PE X (.BinOp a op b pos) (tOp r ta tb):=by
 intro pins s σ H Q I h
 exact wpAny_BinOp (zr8 ha hb I h λv u s2 x y H2 I2 rx ry q=>ho pins s2 σ H2 x y v u Q I2 rx ry q)
theorem zrX {op:UnaryOp} {r:V→Hp→VK→Prop} (ho:UnR X (unaryOp op) r) (ha:PE X a ta):PE X (.UnaryOp op a pos) (tUn r ta):=by
 intro pins s σ H Q I h
 exact UnaryOp_ (thn (ha pins s σ H _ I h) λv s1 ⟨x,H1,I1,r1,q1⟩=>ho pins s1 σ H1 x v Q I1 r1 q1)
theorem opI {f:Value→Value→Sem Value} {C:Int→Int→Prop} {g:Int→Int→Int}
  (rule:∀(i j:Int) (t u:Tok) (s:Shared) (Q:Value→Shared→Prop) (E:Value→Shared→Prop),C i j→Q (.int (g i j) s.toks) { s with toks:=s.toks + 1 }→wpAny (model X.prog X.w) X.A (f (.int i t) (.int j u)) Q E s) :
  OpR X f (rI C λi j=>.int (g i j)):=by
 intro pins s σ H x y v u Q I rx ry h
 obtain⟨i,j,rfl,rfl,hc,q⟩:=h
 obtain⟨t,rfl⟩:=rx
 obtain⟨t',rfl⟩:=ry
 exact rule i j t t' s _ _ hc ⟨.int (g i j),H,I.tok _,⟨_,rfl⟩,q⟩
theorem opI0 {f:Value→Value→Sem Value} {g:Int→Int→Int}
  (rule:∀(i j:Int) (t u:Tok) (s:Shared) (Q:Value→Shared→Prop) (E:Value→Shared→Prop),Q (.int (g i j) s.toks) { s with toks:=s.toks + 1 }→wpAny (model X.prog X.w) X.A (f (.int i t) (.int j u)) Q E s) :
  OpR X f (rI0 λi j=>.int (g i j)):=by
 intro pins s σ H x y v u Q I rx ry h
 obtain⟨i,j,rfl,rfl,q⟩:=h
 obtain⟨t,rfl⟩:=rx
 obtain⟨t',rfl⟩:=ry
 exact rule i j t t' s _ _ ⟨.int (g i j),H,I.tok _,⟨_,rfl⟩,q⟩
theorem zrr {f:Value→Value→Sem Value} {g:Int→Int→Bool}
  (rule:∀(i j:Int) (t u:Tok) (s:Shared) (Q:Value→Shared→Prop) (E:Value→Shared→Prop),Q (.bool (g i j)) s→wpAny (model X.prog X.w) X.A (f (.int i t) (.int j u)) Q E s) :
  OpR X f (rI0 λi j=>.bl (g i j)):=by
 intro pins s σ H x y v u Q I rx ry h
 obtain⟨i,j,rfl,rfl,q⟩:=h
 obtain⟨t,rfl⟩:=rx
 obtain⟨t',rfl⟩:=ry
 exact rule i j t t' s _ _ ⟨.bl (g i j),H,I,rfl,q⟩
def CDiv (i j:Int):Prop:=0 < j∧j < 1073741824
def CMul (i j:Int):Prop:=(-(2 ^ 64) < i∧i < 2 ^ 64)∨(-(2 ^ 64) < j∧j < 2 ^ 64)
theorem CMul.ok {i j:Int} (h:CMul i j):IntMulOk i j:=by
 rcases h with ⟨h1,h2⟩ | ⟨h1,h2⟩
 ·exact .of_left (intBits_le_64 h1 h2)
 ·exact .of_right (intBits_le_64 h1 h2)
theorem zcK:OpR X (binaryOp .Add) (rI0 λi j=>.int (i + j)):=opI0 λ_ _ _ _ _ _ _ q=>add_int q
theorem zcz:OpR X (binaryOp .Sub) (rI0 λi j=>.int (i - j)):=opI0 λ_ _ _ _ _ _ _ q=>sub_int q
theorem zgr:OpR X (binaryOp .Mult) (rI CMul λi j=>.int (i * j)):=opI λ_ _ _ _ _ _ _ hc q=>mul_int q hc.ok
theorem zpW:OpR X (binaryOp .FloorDiv) (rI CDiv λi j=>.int (i / j)):=opI λi j _ _ _ _ _ hc q=>by
 have h1:(0:Int) < j:=hc.1
 have h2:j < 1073741824:=hc.2
 exact floordiv_int (by omega) (by rw[Int.fdiv_eq_ediv_of_nonneg i (by omega)];exact q) (.inl (PyProof.noPylong_small (by omega)))
theorem zq1:OpR X (binaryOp .Mod) (rI (λ_ j=>0 < j) λi j=>.int (i % j)):=opI λi j _ _ _ _ _ hc q=>by
 have h1:(0:Int) < j:=hc
 exact mod_int' (by omega) (by rw[Int.fmod_eq_emod_of_nonneg i (by omega)];exact q)
theorem unI {f:Value→Sem Value} {g:Int→Int}
  (rule:∀(i:Int) (t:Tok) (s:Shared) (Q:Value→Shared→Prop) (E:Value→Shared→Prop),Q (.int (g i) s.toks) { s with toks:=s.toks + 1 }→wpAny (model X.prog X.w) X.A (f (.int i t)) Q E s) :
  UnR X f (rU λi=>.int (g i)):=by
 intro pins s σ H x v Q I rx h
 obtain⟨i,rfl,q⟩:=h
 obtain⟨t,rfl⟩:=rx
 exact rule i t s _ _ ⟨.int (g i),H,I.tok _,⟨_,rfl⟩,q⟩
theorem zqF:UnR X (unaryOp .USub) (rU λi=>.int (-i)):=unI λ_ _ _ _ _ q=>neg_int q
end
def scal:V→V→Bool
 | .non,.non=>true | .non,.int _=>true | .int _,.non=>true | .non,.bl _=>true | .bl _,.non=>true | .non,.str _=>true | .str _,.non=>true
 | .int _,.int _=>true | .bl _,.bl _=>true | .str _,.str _=>true | .byt _,.byt _=>true
 | .int _,.str _=>true | .str _,.int _=>true | .bl _,.str _=>true | .str _,.bl _=>true
 | _,_=>false
def rEq:R2:=λx y H Q=>scal x y=true∧Q (.bl (decide (x=y))) H
def rNe:R2:=λx y H Q=>scal x y=true∧Q (.bl (!decide (x=y))) H
theorem zgh {i j:Int}:decide (V.int i=V.int j)=(i == j):=by
 rw[Bool.eq_iff_iff]
 simp
theorem zpB {i j:Bool}:decide (V.bl i=V.bl j)=(i == j):=by
 rw[Bool.eq_iff_iff]
 simp
theorem znO {i j:Str}:decide (V.str i=V.str j)=(i == j):=by
 rw[Bool.eq_iff_iff]
 simp
theorem znP {i j:Array UInt8}:decide (V.byt i=V.byt j)=(i.toList == j.toList):=by
 rw[Bool.eq_iff_iff]
 cases i
 cases j
 simp
section
variable {X : Cx} {a b c : Expr} {ta tb tc : TE} {pos : Pos}
theorem zcn {pins:List (Addr×Obj)} {σ:St} {H:Hp} {s:Shared} {Q:VK} {k k':Bool} (I:Inv X pins σ H s) (q:Q (.bl k) H) (e:k=k'):EP X pins σ Q (.bool k') s:=by
 subst e
 exact⟨.bl k,H,I,rfl,q⟩
theorem zcs:OpR X (compareOp .Eq) rEq:=by
 intro pins s σ H x y v u Q I rx ry h
 obtain⟨hs,q⟩:=h
 cases x with
 | non =>
  cases rx
  cases y with
  | non=>cases ry;exact PySem.EqNone.eq_none_none (zcn I q (by simp))
  | bl j=>cases ry;exact PySem.EqNone.eq_none_bool (zcn I q (by simp))
  | int j=>obtain⟨t',rfl⟩:=ry;exact PySem.EqNone.eq_none_int (zcn I q (by simp))
  | str j=>obtain⟨t',rfl⟩:=ry;exact PySem.EqNone.eq_none_str (zcn I q (by simp))
  | _=>exact absurd (show false=true from hs) Bool.false_ne_true
 | bl i =>
  cases rx
  cases y with
  | non=>cases ry;exact PySem.EqNone.eq_bool_none (zcn I q (by simp))
  | bl j=>cases ry;exact eq_bool (zcn I q zpB)
  | str j=>obtain⟨t',rfl⟩:=ry;exact PySem.EqMixed.eq_bool_str (zcn I q (by simp))
  | _=>exact absurd (show false=true from hs) Bool.false_ne_true
 | int i =>
  obtain⟨t,rfl⟩:=rx
  cases y with
  | non=>cases ry;exact PySem.EqNone.eq_int_none (zcn I q (by simp))
  | int j=>obtain⟨t',rfl⟩:=ry;exact eq_int (zcn I q zgh)
  | str j=>obtain⟨t',rfl⟩:=ry;exact PySem.EqMixed.eq_int_str (zcn I q (by simp))
  | _=>exact absurd (show false=true from hs) Bool.false_ne_true
 | str i =>
  obtain⟨t,rfl⟩:=rx
  cases y with
  | non=>cases ry;exact PySem.EqNone.eq_str_none (zcn I q (by simp))
  | bl j=>cases ry;exact PySem.EqMixed.eq_str_bool (zcn I q (by simp))
  | int j=>obtain⟨t',rfl⟩:=ry;exact PySem.EqMixed.eq_str_int (zcn I q (by simp))
  | str j=>obtain⟨t',rfl⟩:=ry;exact eq_str (zcn I q znO)
  | _=>exact absurd (show false=true from hs) Bool.false_ne_true
 | byt i =>
  obtain⟨t,rfl⟩:=rx
  cases y with
  | byt j=>obtain⟨t',rfl⟩:=ry;exact PySem.W.eq_bytes (zcn I q znP)
  | _=>exact absurd (show false=true from hs) Bool.false_ne_true
 | _=>cases y <;> exact absurd (show false=true from hs) Bool.false_ne_true
theorem zeG:OpR X (compareOp .NotEq) rNe:=by
 intro pins s σ H x y v u Q I rx ry h
 obtain⟨hs,q⟩:=h
 cases x with
 | non =>
  cases rx
  cases y with
  | non=>cases ry;exact PySem.EqNone.ne_none_none (zcn I q (by simp))
  | bl j=>cases ry;exact PySem.EqNone.ne_none_bool (zcn I q (by simp))
  | int j=>obtain⟨t',rfl⟩:=ry;exact PySem.EqNone.ne_none_int (zcn I q (by simp))
  | str j=>obtain⟨t',rfl⟩:=ry;exact PySem.EqNone.ne_none_str (zcn I q (by simp))
  | _=>exact absurd (show false=true from hs) Bool.false_ne_true
 | bl i =>
  cases rx
  cases y with
  | non=>cases ry;exact PySem.EqNone.ne_bool_none (zcn I q (by simp))
  | bl j=>cases ry;exact ne_bool (zcn I q (congrArg not zpB))
  | str j=>obtain⟨t',rfl⟩:=ry;exact PySem.EqMixed.ne_bool_str (zcn I q (by simp))
  | _=>exact absurd (show false=true from hs) Bool.false_ne_true
 | int i =>
  obtain⟨t,rfl⟩:=rx
  cases y with
  | non=>cases ry;exact PySem.EqNone.ne_int_none (zcn I q (by simp))
  | int j=>obtain⟨t',rfl⟩:=ry;exact ne_int (zcn I q (congrArg not zgh))
  | str j=>obtain⟨t',rfl⟩:=ry;exact PySem.EqMixed.ne_int_str (zcn I q (by simp))
  | _=>exact absurd (show false=true from hs) Bool.false_ne_true
 | str i =>
  obtain⟨t,rfl⟩:=rx
  cases y with
  | non=>cases ry;exact PySem.EqNone.ne_str_none (zcn I q (by simp))
  | bl j=>cases ry;exact PySem.EqMixed.ne_str_bool (zcn I q (by simp))
  | int j=>obtain⟨t',rfl⟩:=ry;exact PySem.EqMixed.ne_str_int (zcn I q (by simp))
  | str j=>obtain⟨t',rfl⟩:=ry;exact ne_str (zcn I q (congrArg not znO))
  | _=>exact absurd (show false=true from hs) Bool.false_ne_true
 | byt i =>
  obtain⟨t,rfl⟩:=rx
  cases y with
  | byt j=>obtain⟨t',rfl⟩:=ry;exact PySem.W.ne_bytes (zcn I q (congrArg not znP))
  | _=>exact absurd (show false=true from hs) Bool.false_ne_true
 | _=>cases y <;> exact absurd (show false=true from hs) Bool.false_ne_true
theorem zeY:OpR X (compareOp .Lt) (rI0 λi j=>.bl (decide (i < j))):=zrr λ_ _ _ _ _ _ _ q=>lt_int q
theorem zhK:OpR X (compareOp .LtE) (rI0 λi j=>.bl (decide (i≤j))):=zrr λ_ _ _ _ _ _ _ q=>le_int q
theorem zhe:OpR X (compareOp .Gt) (rI0 λi j=>.bl (decide (j < i))):=zrr λ_ _ _ _ _ _ _ q=>gt_int q
theorem zlW:OpR X (compareOp .GtE) (rI0 λi j=>.bl (decide (j≤i))):=zrr λ_ _ _ _ _ _ _ q=>ge_int q
theorem zbR (b:Expr) {op:CmpOp} (h:op≠.In:=by decide) (h2:op≠.NotIn:=by decide):behindInMarks op b=false:=by
 have e1:(op == CmpOp.In)=false:=by cases op <;> first | rfl | exact absurd rfl h
 have e2:(op == CmpOp.NotIn)=false:=by cases op <;> first | rfl | exact absurd rfl h2
 cases b <;> simp [behindInMarks,e1,e2]
theorem zcN {op:CmpOp} {r:R2} (ho:OpR X (compareOp op) r) (ha:PE X a ta) (hb:PE X b tb) (hm:behindInMarks op b=false):PE X (.Compare a [op] [b] pos) (tOp r ta tb):=by
 intro pins s σ H Q I h
 exact wpAny_Compare1 (zr8 ha hb I h λv u s2 x y H2 I2 rx ry q=>ho pins s2 σ H2 x y v u Q I2 rx ry q) hm
def zrK (t:TE):TT:=λσ H Q=>t σ H λx H'=>∃k,x=.bl k∧Q k H'
theorem zbO {op:CmpOp} {r:R2} (ho:OpR X (compareOp op) r) (ha:PE X a ta) (hb:PE X b tb) (hm:behindInMarks op b=false):PT X (.Compare a [op] [b] pos) (zrK (tOp r ta tb)):=by
 intro pins s σ H Q I h
 refine wpAny_isTrue_Compare1 (thn (ha pins s σ H _ I h) λv s1 ⟨x,H1,I1,r1,q1⟩=>thn (hb pins s1 σ H1 _ I1 q1) λu s2 ⟨y,H2,I2,r2,q2⟩ =>
  thn (ho pins s2 σ H2 x y v u _ I2 r1 r2 q2) λc s3 ⟨z,H3,I3,r3,k,e,q3⟩=>?_) hm
 subst e
 cases r3
 exact wpAny_truthy_bool ⟨H3,I3,q3⟩
def zqM (r r':R2) (ta tb tc:TE):TE:=λσ H Q=>ta σ H λx H1=>tb σ H1 λy H2=>r x y H2 λz H3=>∃k,z=.bl k ∧
 (if k=true then tc σ H3 λw' H4=>r' y w' H4 Q else Q (.bl false) H3)
theorem zot {op op':CmpOp} {r r':R2} (ho:OpR X (compareOp op) r) (ho':OpR X (compareOp op') r') (ha:PE X a ta) (hb:PE X b tb) (hc:PE X c tc)
  (hm:lastMarks [op,op'] [b,c]=false:=by with_unfolding_all rfl):PE X (.Compare a [op,op'] [b,c] pos) (zqM r r' ta tb tc):=by
 intro pins s σ H Q I h
 refine Compare_chain (thn (ha pins s σ H _ I h) λv s1 ⟨x,H1,I1,r1,q1⟩=>chain_link (thn (hb pins s1 σ H1 _ I1 q1) λu s2 ⟨y,H2,I2,r2,q2⟩ =>
  thn (ho pins s2 σ H2 x y v u _ I2 r1 r2 q2) λd s3 ⟨z,H3,I3,r3,k,e,q3⟩=>?_)) hm
 subst e
 cases r3
 refine wpAny_truthy_bool ?_
 cases k with
 | false=>exact ite_ff ⟨.bl false,H3,I3,rfl,q3⟩
 | true=>exact ite_tt (chain_last (thn (hc pins s3 σ H3 _ I3 q3) λw' s4 ⟨z',H4,I4,r4,q4⟩=>ho' pins s4 σ H4 y z' u w' Q I4 r2 r4 q4))
theorem zlo:(sizeLine:Nat) < 2 ^ 63:=by rw[sizeLine_eq];decide
theorem zqE {x:V} {us:List Value} (r:Vals [x] us):∃u,us=[u]∧RelV x u:=by
 cases r with
 | cons r1 r2=>cases r2;exact⟨_,rfl,r1⟩
theorem zqD {x y:V} {us:List Value} (r:Vals [x,y] us):∃u w',us=[u,w']∧RelV x u∧RelV y w':=by
 cases r with
 | cons r1 r2 =>
  cases r2 with
  | cons r3 r4=>cases r4;exact⟨_,_,rfl,r1,r3⟩
theorem zdQ (hc:X.calm=true):zjk X (.builtin "max") (λxs H Q=>∃i j,xs=[.int i,.int j]∧Q (.int (if j > i then j else i)) H):=by
 intro pins s σ H xs us Q I r h
 obtain⟨i,j,rfl,q⟩:=h
 obtain⟨u,w',rfl,⟨t,rfl⟩,⟨t',rfl⟩⟩:=zqD r
 refine max_two_ints (I.ok.hd hc) λh' tk k=>⟨_,H,I.kept k,?_,q⟩
 by_cases hj:j > i
 ·rw[if_pos hj,if_pos hj];exact⟨_,rfl⟩
 ·rw[if_neg hj,if_neg hj];exact⟨_,rfl⟩
theorem zhx (hc:X.calm=true):zjk X (.builtin "min") (λxs H Q=>∃i j,xs=[.int i,.int j]∧Q (.int (if j < i then j else i)) H):=by
 intro pins s σ H xs us Q I r h
 obtain⟨i,j,rfl,q⟩:=h
 obtain⟨u,w',rfl,⟨t,rfl⟩,⟨t',rfl⟩⟩:=zqD r
 refine min_two_ints (I.ok.hd hc) λh' tk k=>⟨_,H,I.kept k,?_,q⟩
 by_cases hj:j < i
 ·rw[if_pos hj,if_pos hj];exact⟨_,rfl⟩
 ·rw[if_neg hj,if_neg hj];exact⟨_,rfl⟩
def LenV (K:PySem.W.Frag) (x:V) (H:Hp) (n:Nat):Prop :=
 match x with
 | .str y=>y.length≤sizeLine∧n=y.length
 | .byt y=>y.size≤sizeLine∧n=y.size
 | .ref p=>(∃xs,SqL K H p xs∧n=xs.length)∨∃xs,SqT K H p xs∧n=xs.length
 | _=>False
theorem zcc:zjk X (.builtin "len") (λxs H Q=>∃x n,xs=[x]∧LenV X.K x H n∧Q (.int n) H):=by
 intro pins s σ H xs us Q I r h
 obtain⟨x,n,rfl,e,q⟩:=h
 obtain⟨u,rfl,rx⟩:=zqE r
 have hl:=zlo
 have hs:sizeLine=16777216:=sizeLine_eq
 cases x with
 | str y =>
  obtain⟨t,rfl⟩:=rx
  obtain⟨hy,e'⟩:y.length≤sizeLine∧n=y.length:=e
  subst e'
  exact len_str (by omega) ⟨.int _,H,I.tok _,⟨_,rfl⟩,q⟩
 | byt y =>
  obtain⟨t,rfl⟩:=rx
  obtain⟨hy,e'⟩:y.size≤sizeLine∧n=y.size:=e
  subst e'
  exact PySem.W.len_bytes (by omega) ⟨.int _,H,I.tok _,⟨_,rfl⟩,q⟩
 | ref p =>
  cases rx
  have e':(∃xs,SqL X.K H p xs∧n=xs.length)∨∃xs,SqT X.K H p xs∧n=xs.length:=e
  rcases e' with ⟨xs,hx,e'⟩ | ⟨xs,hx,e'⟩
  ·subst e'
   obtain⟨its,r',pl,hz⟩:=I.list hx
   have hlen:=r'.length
   exact Calls.call_len_list pl.isList (by simp only [List.size_toArray];omega) ⟨.int xs.length,H,I.tok _,⟨_,by simp only [List.size_toArray];rw[hlen]⟩,q⟩
  ·subst e'
   obtain⟨its,r',pl,hz⟩:=I.tuple hx
   have hlen:=r'.length
   exact len_tuple pl (by simp only [List.size_toArray];omega) ⟨.int xs.length,H,I.tok _,⟨_,by simp only [List.size_toArray];rw[hlen]⟩,q⟩
 | _=>exact (show False from e).elim
end
end L2
namespace L2
open PySem PySem.Spec PyProof.Rows
structure ObjM (h:Heap) (x dx C:Addr) (mA:Str→Option Value):Prop where
 obj:h.get? x=some (PySem.W.instObj C dx)
 ns:h.Ns1 dx mA
 ne:dx≠x
theorem znq {h:Heap} {dx:Addr} {mA:Str→Option Value} (n:h.Ns1 dx mA):∃od,h.get? dx=some od∧∀name,PySem.W.lookIn name od=some (mA name):=by
 obtain⟨o,es,ep,ho,hd,hk,_,hm⟩:=n
 refine⟨o,ho,λname=>?_⟩
 have e:=hm name
 unfold nsFind findBy at e
 rw[←Array.find?_toList] at e
 unfold PySem.W.lookIn
 rw[hd]
 dsimp only
 split
 ·rename_i y q
  rw[q] at e
  exact congrArg some e
 ·rename_i q
  rw[q] at e
  have a:es.toList.any (·.refKey)=false:=by
   rw[List.any_eq_false]
   intro y hy
   obtain⟨z,t,hkey⟩:=hk y (Array.mem_toList_iff.mp hy)
   simp [DictEntry.refKey,hkey]
  have a':¬es.toList.any (·.refKey)=true:=by rw[a];exact Bool.false_ne_true
  rw[if_neg a']
  exact congrArg some e
theorem ObjM.look {h:Heap} {x dx C:Addr} {mA:Str→Option Value} (I:ObjM h x dx C mA):∃od,PySem.W.InstAt h x (PySem.W.instObj C dx) C (some od)∧∀name,PySem.W.lookIn name od=some (mA name) :=
 let ⟨od,ho,hl⟩:=znq I.ns
 ⟨od,⟨I.obj,rfl,rfl,ho⟩,hl⟩
section
variable {prog : Program} {w : World} {A : Around} {E : Value → Shared → Prop} {s : Shared} {K : PySem.W.Frag} {x dx C f : Addr} {mA : Str → Option Value} {name : Str} {v : Value}
theorem zqb {expr:Bool} {Q:Value→Shared→Prop} (X:K.In s.heap) (I:ObjM s.heap x dx C mA) (hg:PySem.W.plainGet K C name=true) (hh:PySem.W.hasDictIn K C=true)
  (ha:PySem.W.findIn K (.ref C) name=some none) (hv:mA name=some v) (hv':PySem.W.handedIn v=true) (h:Q v { s with toks:=s.toks + 1 }) :
  wpAny (model prog w) A (getAttr (.ref x) name expr) Q E s:=by
 obtain⟨od,J,hl⟩:=I.look
 exact PySem.W.get_value X J (PySem.W.plainGet_of hg).1 (PySem.W.findObj_own hh ha rfl (by rw[hl,hv])) hv' h
theorem zo0 {pl:Sem Bool} {Q:Value×List Value→Shared→Prop} (X:K.In s.heap) (I:ObjM s.heap x dx C mA) (hg:PySem.W.plainGet K C name=true)
  (hf:PySem.W.findIn K (.ref C) name=some (some (.ref f))) (ht:PySem.W.isFn K (.ref f)=true) (hv:mA name=none) (h:Q (.ref f,[.ref x]) s) :
  wpAny (model prog w) A (getMethod (.ref x) name pl) Q E s:=by
 obtain⟨od,J,hl⟩:=I.look
 exact PySem.W.method_fn X J (PySem.W.plainGet_of hg).1 (PySem.W.plainGet_of hg).2 hf (beq_iff_eq.mp ht) (by show (PySem.W.lookIn name od).map (·.isSome)=some false;rw[hl,hv];rfl) h
theorem zpM {ns:List Str} {Q:Unit→Shared→Prop} (X:K.In s.heap) (I:ObjM s.heap x dx C mA)
  (hs:PySem.W.findIn K (.ref C) "__setattr__"=some (some (.builtin "object.__setattr__"))) (hp:PySem.W.plainOver K C=true) (ht:PySem.W.takerIn K C name=some none) (hh:PySem.W.hasDictIn K C=true)
  (hw:PySem.Within mA ns) (hsz:ns.length≤sizeLine)
  (h:∀h',ObjM h' x dx C (λy=>if y=name then some v else mA y)→Heap.SameBut dx s.heap h'→Q () { s with heap:=h',toks:=s.toks + 2 }) :
  wpAny (model prog w) A (setAttr (.ref x) name v) Q E s:=by
 obtain⟨od,J,hl⟩:=I.look
 refine PySem.W.set_plain X J hs (PySem.W.osa_open (s:={ s with toks:=s.toks + 1 }) (r:=none) X J hp ht λb=>?_)
 obtain⟨cd,hc,hd'⟩:=PySem.W.any_some hh
 have hx:s.heap.get? x=some ⟨.ref C,some dx,.plain,#[]⟩:=I.obj
 refine wpAny_bind (wpAny_pure (wpAny_bind (wpAny_bind (wpAny_loadPart hx (wpAny_bind (PySem.W.Looks.here (s:={ s with toks:=s.toks + 1 }) (PySem.W.looks_clsIn X hc) ?_))))))
 rw[hd']
 refine wpAny_pure (a:=some dx) (wpAny_bind (wpAny_pure (wpAny_bind ?_)))
 refine wpAny_nsSet1 (s:={ s with toks:=s.toks + 1 }) I.ns λh' hn2 hs2=>?_
 obtain⟨oD,esD,epD,hoD,hdD,hcD⟩:=hn2.count (PySem.Within.cons name v hw)
 refine wpAny_bind (wpAny_lookBehind hoD (by rw[hdD];exact pastItsLine_dict (Nat.le_trans hcD (by rw[List.length_cons];omega))) ?_)
 exact wpAny_pure (h _ ⟨(hs2.2 _ (Ne.symm I.ne)).trans I.obj,hn2,I.ne⟩ hs2)
theorem zoS {R:Result→Shared→Prop} {vs:List Value} {kw:List (Str×Value)} (X:K.In s.heap) (hm:PySem.W.makesIn K C=true)
  (hi:PySem.W.findIn K (.ref C) "__init__"=some (some (.ref f))) (hf:PySem.W.typeIn K (.ref f)=some (.type "function"))
  (h:codeAny (model prog w) (A.under (.builtin "type.__call__" ⟨.ref C::vs,kw⟩)) (.call (.ref f) ⟨.ref (s.heap.objs.size + 1)::vs,kw⟩) (PySem.W.InitBack (s.heap.objs.size + 1) R)
   { s with heap:=(s.heap.push PySem.W.emptyDict).push (PySem.W.instObj C s.heap.objs.size) }) :
  codeAny (model prog w) A (.call (.ref C) ⟨vs,kw⟩) R s:=by
 obtain⟨hh,g,d,t,os⟩:=s
 exact PySem.W.make_core (PySem.W.makes_of X hm) (PySem.W.looks_findIn X hi) (λself=>PySem.W.bind_fn X self hf) (.inl rfl) h
end
def zdO (f:Str) (v:V):List (Str×V)→List (Str×V)
 | []=>[(f,v)]
 | (g,x)::r=>if g=f then (g,v)::r else (g,x)::zdO f v r
theorem zhl (f g:Str) (v:V):∀fs:List (Str×V),(zdO f v fs).lookup g=if g=f then some v else fs.lookup g
 | []=>by
  show List.lookup g [(f,v)]=_
  by_cases h:g=f
  ·have hb:(g == f)=true:=beq_iff_eq.mpr h
   simp only [List.lookup,hb,if_pos h]
  ·have hb:(g == f)=false:=beq_eq_false_iff_ne.mpr h
   simp only [List.lookup,hb,if_neg h]
 | (k,x)::r=>by
  have ih:=zhl f g v r
  rw[show zdO f v ((k,x)::r)=(if k=f then (k,v)::r else (k,x)::zdO f v r) from rfl]
  by_cases hk:k=f
  ·rw[if_pos hk]
   by_cases h:g=k
   ·have hb:(g == k)=true:=beq_iff_eq.mpr h
    simp only [List.lookup,hb,if_pos (h.trans hk)]
   ·have hb:(g == k)=false:=beq_eq_false_iff_ne.mpr h
    simp only [List.lookup,hb,if_neg (λe:g=f=>h (e.trans hk.symm))]
  ·rw[if_neg hk]
   by_cases h:g=k
   ·have hb:(g == k)=true:=beq_iff_eq.mpr h
    simp only [List.lookup,hb,if_neg (λe:g=f=>hk (h.symm.trans e))]
   ·have hb:(g == k)=false:=beq_eq_false_iff_ne.mpr h
    simp only [List.lookup,hb]
    exact ih
theorem zhn (f:Str) (v:V):∀fs:List (Str×V),f∈(zdO f v fs).map (·.1)∧∀g,g∈fs.map (·.1)→g∈(zdO f v fs).map (·.1)
 | []=>⟨by simp [zdO],λg h=>by simp at h⟩
 | (k,x)::r=>by
  obtain⟨i1,i2⟩:=zhn f v r
  rw[show zdO f v ((k,x)::r)=(if k=f then (k,v)::r else (k,x)::zdO f v r) from rfl]
  by_cases hk:k=f
  ·rw[if_pos hk]
   subst hk
   exact⟨by simp,λg h=>by simpa using h⟩
  ·rw[if_neg hk]
   refine⟨?_,λg h=>?_⟩
   ·rw[List.map_cons]
    exact List.mem_cons_of_mem _ i1
   ·rw[List.map_cons] at h ⊢
    rcases List.mem_cons.mp h with e | e
    ·exact List.mem_cons.mpr (.inl e)
    ·exact List.mem_cons_of_mem _ (i2 g e)
theorem zcj (f:Str) (v:V):∀fs:List (Str×V),(zdO f v fs).length≤fs.length + 1
 | []=>by simp [zdO]
 | (k,x)::r=>by
  have ih:=zcj f v r
  rw[show zdO f v ((k,x)::r)=(if k=f then (k,v)::r else (k,x)::zdO f v r) from rfl]
  by_cases hk:k=f
  ·rw[if_pos hk,List.length_cons,List.length_cons];omega
  ·rw[if_neg hk,List.length_cons,List.length_cons];omega
theorem RelO.some_of {v:V} {o:Option Value} (r:RelO (some v) o):∃u,o=some u∧RelV v u:=by
 cases o with
 | none=>exact (show False from r).elim
 | some u=>exact⟨u,rfl,r⟩
theorem RelO.none_of {o:Option Value} (r:RelO none o):o=none:=by
 cases o with
 | none=>rfl
 | some u=>exact (show False from r).elim
theorem znB {v:V} {u:Value} (r:RelV v u):PySem.W.handedIn u=true:=by
 cases v with
 | non=>cases (show u=Value.none from r);rfl
 | bl b=>cases (show u=Value.bool b from r);rfl
 | int i=>obtain⟨t,e⟩:=(show ∃t,u=Value.int i t from r);cases e;rfl
 | str x=>obtain⟨t,e⟩:=(show ∃t,u=Value.str x t from r);cases e;rfl
 | byt b=>obtain⟨t,e⟩:=(show ∃t,u=Value.bytes b t from r);cases e;rfl
 | flt b=>obtain⟨t,e⟩:=(show ∃t,u=Value.float b t from r);cases e;rfl
 | ref a=>cases (show u=Value.ref a from r);rfl
 | ty n=>cases (show u=Value.type n from r);rfl
section
variable {P : Program} {w : World} {H H' : Hp} {h h' : Heap} {a C dx : Addr} {fs fs' : List (Str × V)}
theorem zkM (hok:HOk P w H h) (e:H a=some (.ins C dx fs)):∃mA,ObjM h a dx C mA∧(∀f,RelO (fs.lookup f) (mA f))∧PySem.Within mA (fs.map (·.1))∧fs.length≤1000∧H dx=some (.own a):=by
 obtain⟨d,z,ne,ob,mA,n,r,q⟩:=(show ObjOk P w H h a (.ins C dx fs) from hok a _ e)
 exact⟨mA,⟨ob,n,ne⟩,r,q,z,d⟩
end
structure Cls (K:PySem.W.Frag) (C:Addr):Prop where
 pg:PySem.W.plainGet K C Str.empty=true
 hd:PySem.W.hasDictIn K C=true
 po:PySem.W.plainOver K C=true
 sa:PySem.W.findIn K (.ref C) "__setattr__"=some (some (.builtin "object.__setattr__"))
theorem Cls.get {K:PySem.W.Frag} {C:Addr} (c:Cls K C) (f:Str):PySem.W.plainGet K C f=true:=c.pg
def NoAttr (K:PySem.W.Frag) (C:Addr) (f:Str):Prop:=PySem.W.findIn K (.ref C) f=some none
theorem NoAttr.taker {K:PySem.W.Frag} {C:Addr} {f:Str} (n:NoAttr K C f):PySem.W.takerIn K C f=some none:=by
 unfold PySem.W.takerIn
 rw[show PySem.W.findIn K (.ref C) f=some none from n]
 rfl
structure Meth (K:PySem.W.Frag) (C:Addr) (m:Str) (f:Addr):Prop where
 at_:PySem.W.findIn K (.ref C) m=some (some (.ref f))
 fn:PySem.W.isFn K (.ref f)=true
 kp:PySem.W.keepIn K (.ref f)=true
section
variable {X : Cx} {pins : List (Addr × Obj)} {σ : St} {H : Hp} {s : Shared} {a C dx : Addr} {fs : List (Str × V)} {f : Str} {v : V} {A : Around} {E : Value → Shared → Prop}
theorem zmd {b:Bool} {Q:Value→Shared→Prop} (I:Inv X pins σ H s) (e:H a=some (.ins C dx fs)) (c:Cls X.K C) (n:NoAttr X.K C f) (l:fs.lookup f=some v)
  (h:∀u s',Inv X pins σ H s'→RelV v u→Q u s'):wpAny (model X.prog X.w) A (getAttr (.ref a) f b) Q E s:=by
 obtain⟨mA,O,r,_,_,_⟩:=zkM I.hok e
 obtain⟨u,hu,ru⟩:=RelO.some_of (v:=v) (o:=mA f) (by rw[←l];exact r f)
 exact zqb I.kIn O (c.get f) c.hd n hu (znB ru) (h u _ (I.tok _) ru)
theorem zgd {m:Str} {g:Addr} {pl:Sem Bool} {Q:Value×List Value→Shared→Prop} (I:Inv X pins σ H s) (e:H a=some (.ins C dx fs)) (c:Cls X.K C) (k:Meth X.K C m g) (l:fs.lookup m=none)
  (h:Q (.ref g,[.ref a]) s):wpAny (model X.prog X.w) A (getMethod (.ref a) m pl) Q E s:=by
 obtain⟨mA,O,r,_,_,_⟩:=zkM I.hok e
 have hn:mA m=none:=RelO.none_of (by rw[←l];exact r m)
 exact zo0 I.kIn O (c.get m) k.at_ k.fn hn h
theorem zlR {y:V} {u:Value} {Q:Unit→Shared→Prop} (I:Inv X pins σ H s) (e:H a=some (.ins C dx fs)) (c:Cls X.K C) (n:NoAttr X.K C f) (hl:fs.length < 1000) (ry:RelV y u)
  (h:∀s',Inv X pins σ (upd H a (.ins C dx (zdO f y fs))) s'→Q () s'):wpAny (model X.prog X.w) A (setAttr (.ref a) f u) Q E s:=by
 obtain⟨mA,O,r,wi,_,ho⟩:=zkM I.hok e
 have hz:(fs.map (·.1)).length≤sizeLine:=by rw[List.length_map,sizeLine_eq];omega
 refine zpM I.kIn O c.sa c.po n.taker c.hd wi hz λh' O' sb=>h _ ?_
 have hd:∃o,h'.get? dx=some o:=let ⟨o,_,_,e',_⟩:=O'.ns;⟨o,e'⟩
 refine I.write (x:=a) (e:=dx) (by rw[e];exact True.intro) (.inr ho) (λb q hb z=>(sb.2 b hb).trans z) hd ?_
 refine⟨by rw[zbL O.ne];exact ho,?_,O.ne,O'.obj,_,O'.ns,λg=>?_,λg hg=>?_⟩
 ·have:=zcj f y fs;omega
 ·show RelO ((zdO f y fs).lookup g) (if g=f then some u else mA g)
  rw[zhl]
  by_cases q:g=f
  ·rw[if_pos q,if_pos q];exact ry
  ·rw[if_neg q,if_neg q];exact r g
 ·by_cases q:g=f
  ·rw[q];exact (zhn f y fs).1
  ·refine (zhn f y fs).2 g (wi g λz=>hg ?_)
   show (if g=f then some u else mA g)=none
   rw[if_neg q];exact z
theorem Inv.made (I:Inv X pins σ H s):Inv X pins σ (upd (upd H s.heap.objs.size (.own (s.heap.objs.size + 1))) (s.heap.objs.size + 1) (.ins C s.heap.objs.size []))
  { s with heap:=(s.heap.push PySem.W.emptyDict).push (PySem.W.instObj C s.heap.objs.size) }:=by
 have e1:(s.heap.push PySem.W.emptyDict).get? s.heap.objs.size=some PySem.W.emptyDict:=Heap.get?_push_size s.heap rfl
 have e2:((s.heap.push PySem.W.emptyDict).push (PySem.W.instObj C s.heap.objs.size)).get? (s.heap.objs.size + 1)=some (PySem.W.instObj C s.heap.objs.size):=by
  have:=Heap.get?_push_size (s.heap.push PySem.W.emptyDict) (o:=PySem.W.instObj C s.heap.objs.size) rfl
  rwa [Heap.size_push] at this
 have e3:(s.heap.push PySem.W.emptyDict).Ns s.heap.objs.size (λ_=>none):=⟨PySem.W.emptyDict,#[],_,e1,rfl,(λe he=>absurd he (by simp)),λ_=>rfl⟩
 have I1:=I.laid (a:=s.heap.objs.size) (o:=.own (s.heap.objs.size + 1)) (h':=s.heap.push PySem.W.emptyDict) (t':=s.toks) (λb u q=>Heap.get?_push_of_some _ q) (Nat.le_refl _) ⟨_,e1⟩
 refine I1.laid (a:=s.heap.objs.size + 1) (o:=.ins C s.heap.objs.size []) (t':=s.toks) (λb u q=>Heap.get?_push_of_some _ q) (Nat.le_of_eq (Heap.size_push _ _)) ?_
 have ne:s.heap.objs.size≠s.heap.objs.size + 1:=Nat.ne_of_lt (Nat.lt_succ_self _)
 refine⟨by rw[zbL ne,zbG],Nat.zero_le _,ne,e2,λ_=>none,(Heap.Ns1.of_empty e3).at λo q=>Heap.get?_push_of_some _ q,λ_=>True.intro,λy hy=>absurd rfl hy⟩
theorem zqm {prog:Program} {w:World} {env:Env} {e:Expr} {f:Str} {pos:Pos} {s:Shared} {Q:Value→Shared→Prop} (hb:attributeBase e f env (eval e env)=eval e env)
  (h:wpAny (model prog w) A (eval e env) (λo s₁=>wpAny (model prog w) A (getAttr o f true) Q E s₁) E s):wpAny (model prog w) A (eval (.Attribute e f pos) env) Q E s :=
 Attribute_any_ h (by rw[arm_eval_Attribute,hb])
end
def tFld (K:PySem.W.Frag) (ta:TE) (f:Str):TE:=λσ H Q=>ta σ H λx H1=>∃a C dx fs v,x=.ref a∧H1 a=some (.ins C dx fs)∧Cls K C∧NoAttr K C f∧fs.lookup f=some v∧Q v H1
def sFld (K:PySem.W.Frag) (ta tv:TE) (f:Str):TS:=λD σ H=>tv σ H λy H1=>ta σ H1 λx H2=>∃a C dx fs,x=.ref a∧H2 a=some (.ins C dx fs)∧Cls K C∧NoAttr K C f∧fs.length < 1000 ∧
 D.nx σ (upd H2 a (.ins C dx (zdO f y fs)))
section
variable {X : Cx} {o e value : Expr} {f : Str} {pos pos' tpos : Pos} {ta tv : TE}
theorem zbE (he:PE X e ta) (hb:attributeBase e f X.env (eval e X.env)=eval e X.env):PE X (.Attribute e f pos) (tFld X.K ta f):=by
 intro pins s σ H Q I h
 refine zqm hb (thn (he pins s σ H _ I h) λu s1 ⟨x,H1,I1,rx,a,C,dx,fs,v,ex,ea,c,n,l,q⟩=>?_)
 subst ex
 obtain rfl:u=Value.ref a:=rx
 exact zmd I1 ea c n l λu' s2 I2 ru=>⟨v,H1,I2,ru,q⟩
theorem zbX (ha:PE X o ta) (hv:PE X value tv) (hs:swapsWith value (some (.Attribute o f pos')) pos.line X.env=pure false):PS X (.Assign [.Attribute o f pos'] value pos) (sFld X.K ta tv f):=by
 intro pins s σ H D I h
 refine plainObj_wpAny_Assign_Attribute (thn (hv pins s σ H _ I h) λu s1 ⟨y,H1,I1,ry,q⟩=>thn (ha pins s1 σ H1 _ I1 q) λov s2 ⟨x,H2,I2,rx,a,C,dx,fs,ex,ea,c,n,l,q2⟩=>?_) hs
 subst ex
 obtain rfl:ov=Value.ref a:=rx
 exact zlR I2 ea c n l ry λs3 I3=>⟨σ,_,I3,q2⟩
theorem zp7 {pl:Sem Bool} {m:Str} {apos:Pos} {args:List Expr} {pins:List (Addr×Obj)} {s:Shared} {σ:St} {H:Hp} {Q:Value→Shared→Prop} {te:TE} (he:PE X e te) (I:Inv X pins σ H s)
  (h:te σ H λx H1=>∃a C dx fs g,x=.ref a∧H1 a=some (.ins C dx fs)∧Cls X.K C∧Meth X.K C m g∧fs.lookup m=none ∧
   ∀s1,Inv X pins σ H1 s1→wpAny (model X.prog X.w) X.A (callWith pos (.ref g) [.ref a] (backTo pos (starEach args X.env)) (backToKw pos (keywordEach [] X.env))) Q X.xe s1)
  (ht:eval (.Call (.Attribute e m apos) args [] pos) X.env=(do
   let ov ←eval e X.env
   standAt apos.atName
   let (f,first) ←holding [ov] (getMethod ov m pl)
   callWith pos f first (backTo pos (starEach args X.env)) (backToKw pos (keywordEach [] X.env)))) :
  wpAny (model X.prog X.w) X.A (eval (.Call (.Attribute e m apos) args [] pos) X.env) Q X.xe s:=by
 refine PySem.W.methodCall_KW (pl:=pl) (thn (he pins s σ H _ I h) λu s1 ⟨x,H1,I1,rx,a,C,dx,fs,g,ex,ea,c,k,l,q⟩=>?_) ht
 subst ex
 obtain rfl:u=Value.ref a:=rx
 exact zgd I1 ea c k l (q s1 I1)
end
section
variable {X : Cx} {pins : List (Addr × Obj)} {σ : St} {H : Hp} {s : Shared} {A : Around} {E : Value → Shared → Prop} {Q : Value → Shared → Prop} {c : Value} {b : Bool}
end
end L2
namespace L2
open PySem PySem.Spec PyProof.Rows
structure Room (k:Nat) (A:Around):Prop where
 hd:A.handled=none
 dp:A.depth + 3 * k + 5 < recursionLimit
 un:A.units + 16 * k + 200 < cLine
theorem Room.mono {j k:Nat} {A:Around} (r:Room k A) (h:j≤k):Room j A:=⟨r.hd,by have:=r.dp;omega,by have:=r.un;omega⟩
theorem Room.deeper {k:Nat} {A:Around} (r:Room (k + 1) A) (env:Env):Room k (A.deeper env) :=
 ⟨r.hd,by have:=r.dp;show A.depth + 1 + 3 * k + 5 < _;omega,by have:=r.un;show A.units + 3 + 16 * k + 200 < _;omega⟩
theorem Room.in1 {k:Nat} {A:Around} (r:Room (k + 1) A):Room k A.in1 :=
 ⟨r.hd,by have:=r.dp;show A.depth + 3 * k + 5 < _;omega,by have:=r.un;show A.units + 1 + 16 * k + 200 < _;omega⟩
theorem zmc {A:Around} {C:Addr} {us:List Value} {kw:List (Str×Value)}:(A.under (.builtin "type.__call__" ⟨.ref C::us,kw⟩)).depth=A.depth + 1:=by
 first | rfl | simp [Around.under,Code.weight,Code.isCreation,Code.isGuard,Code.isCaller,Code.frames,Code.isFrame,guardIds]
theorem zmb {A:Around} {C:Addr} {us:List Value} {kw:List (Str×Value)}:(A.under (.builtin "type.__call__" ⟨.ref C::us,kw⟩)).units=A.units + 1:=by
 first | rfl | simp [Around.under,Code.cUnits,Code.frames,Code.isFrame]
theorem Room.make {k:Nat} {A:Around} (r:Room (k + 1) A) (C:Addr) (us:List Value) (kw:List (Str×Value)):Room k (A.under (.builtin "type.__call__" ⟨.ref C::us,kw⟩)) :=
 ⟨r.hd,by have:=r.dp;rw[zmc];omega,by have:=r.un;rw[zmb];omega⟩
theorem Room.depth {k:Nat} {A:Around} (r:Room k A):A.depth < recursionLimit:=by have:=r.dp;omega
theorem Room.units {k:Nat} {A:Around} (r:Room k A):A.units + 64 < cLine:=by have:=r.un;omega
def zqz:TA:=λ_ H Q=>Q [] H
def zqL (ta:TE) (tr:TA):TA:=λσ H Q=>ta σ H λx H1=>tr σ H1 λxs H2=>Q (x::xs) H2
section
variable {X : Cx} {e : Expr} {es : List Expr} {te : TE} {t : TA} {pos : Pos}
theorem zbD:PA X [] zqz:=λ_ _ _ _ H Q I h=>Calls.spliced_nil ⟨[],H,I,.nil,h⟩
theorem zbB (ha:PE X e te) (hr:PA X es t) (hs:starEach (e::es) X.env=(false,eval e X.env)::starEach es X.env:=by rfl):PA X (e::es) (zqL te t):=by
 intro pos pins s σ H Q I h
 rw[hs]
 show wpAny _ _ (spliced ((false,eval e X.env)::backTo pos (starEach es X.env))) _ _ s
 refine Calls.spliced_cons (thn (ha pins s σ H _ I h) λu s1 ⟨x,H1,I1,r1,q1⟩=>?_)
 exact thn (hr pos pins s1 σ H1 _ I1 q1) λus s2 ⟨xs,H2,I2,r2,q2⟩=>⟨x::xs,H2,I2,.cons r1 r2,q2⟩
def tTup (t:TA):TE:=λσ H Q=>t σ H λxs H1=>xs.length≤sizeLine∧∀p,H1 p=none→Q (.ref p) (upd H1 p (.tup xs))
def tLst (t:TA):TE:=λσ H Q=>t σ H λxs H1=>xs.length≤sizeLine∧∀p,H1 p=none→Q (.ref p) (upd H1 p (.lst xs))
theorem zpw {x1} (h:PA X es t):PE X (.Tuple es x1 pos) (tTup t):=by
 intro pins s σ H Q I hq
 refine wpAny_Tuple_spliced (thn (h pos pins s σ H _ I hq) λus s1 ⟨xs,H1,I1,r,z,q⟩=>⟨by rw[←r.length];exact z,?_⟩)
 have hf:H1 s1.heap.objs.size=none:=I1.hok.fresh (Nat.le_refl _)
 refine⟨.ref s1.heap.objs.size,upd H1 s1.heap.objs.size (.tup xs),I1.laid (t':=s1.toks) (λb u e=>Heap.get?_push_of_some _ e) (Nat.le_refl _) ?_,rfl,q _ hf⟩
 exact⟨z,us,r,⟨_,Heap.get?_push_size _ rfl,rfl,_,rfl⟩⟩
theorem zbQ (h:PA X es t):PE X (.List es pos) (tLst t):=by
 intro pins s σ H Q I hq
 refine wpAny_List_spliced (thn (h pos pins s σ H _ I hq) λus s1 ⟨xs,H1,I1,r,z,q⟩=>⟨by rw[←r.length];exact z,?_⟩)
 have hf:H1 s1.heap.objs.size=none:=I1.hok.fresh (Nat.le_refl _)
 refine⟨.ref s1.heap.objs.size,upd H1 s1.heap.objs.size (.lst xs),I1.laid (t':=s1.toks) (λb u e=>Heap.get?_push_of_some _ e) (Nat.le_refl _) ?_,rfl,q _ hf⟩
 exact⟨z,us,0,r,Heap.get?_push_size _ rfl⟩
end
abbrev Sp:=List V→Hp→VK→XK→Prop
abbrev CXT:=List Env→Hp→Shared→XK→Value→Shared→Prop
structure Env0 (P:Program) (w:World) (K:PySem.W.Frag) (mg:Str→Option Value) (base:Heap) (A:Around) (outer:List Env) (s:Shared) (H:Hp):Prop where
 frames:A.frames=some outer
 mod:Mod K mg base
 bs:∀b o,base.get? b=some o→s.heap.get? b=some o∧H b=none
 bsz:base.objs.size≤s.heap.objs.size
 funs:s.heap.FunFrames base outer
 frf:∀b∈frs outer,H b=none
 hok:HOk P w H s.heap
 bare:AllBare s.gens
def CE (outer:List Env) (P:Program) (w:World) (H:Hp) (s:Shared) (Q:VK) (u:Value) (s':Shared):Prop :=
 ∃v H',s'.os=s.os∧AllBare s'.gens∧Un (frs outer) [] H H' s.heap s'.heap∧HOk P w H' s'.heap∧RelV v u∧Q v H'
def CR (CX:CXT) (outer:List Env) (P:Program) (w:World) (H:Hp) (s:Shared) (Q:VK) (E:XK) (r:Result) (s':Shared):Prop :=
 match r with
 | .ok (.ret u)=>CE outer P w H s Q u s'
 | .ok _=>False
 | .error e=>CX outer H s E e s'
structure FnOk (P:Program) (w:World) (K:PySem.W.Frag) (mg:Str→Option Value) (base:Heap) (CX:CXT) (k:Nat) (f:Addr) (fd:FuncData) (ps:List Str) (sp:Sp):Prop where
 len:∀vs H Q E,sp vs H Q E→vs.length=ps.length
 run:∀(A:Around) (outer:List Env) (s:Shared) (H:Hp) (args:Args) (us:List Value) (vs:List V) (Q:VK) (E:XK),Room k A→Env0 P w K mg base A outer s H→BindsTo s fd args (ps.zip us)→Vals vs us→sp vs H Q E →
  codeAny (model P w) A (.call (.ref f) args) (CR CX outer P w H s Q E) s
theorem Env0.make {P:Program} {w:World} {K:PySem.W.Frag} {mg:Str→Option Value} {base:Heap} {A:Around} {outer:List Env} {s:Shared} {H:Hp} (e:Env0 P w K mg base A outer s H) (C:Addr) (us:List Value) (kw:List (Str×Value)) :
  Env0 P w K mg base (A.under (.builtin "type.__call__" ⟨.ref C::us,kw⟩)) outer s H:=⟨by first | exact e.frames | (simpa [Around.under,Code.envs,Code.isFrame,pushEnvs] using e.frames),e.mod,e.bs,e.bsz,e.funs,e.frf,e.hok,e.bare⟩
section
variable {X : Cx} {pins : List (Addr × Obj)} {σ : St} {H : Hp} {s s' : Shared}
theorem Inv.env0 (I:Inv X pins σ H s):Env0 X.prog X.w X.K X.mg X.base X.A X.stack s H :=
 ⟨I.ok.frames,I.ok.mod,I.bs,Nat.le_trans I.ok.bsz I.sz,I.stack,I.stkFree,I.hok,I.bare⟩
theorem Inv.after {Q:VK} {u:Value} (I:Inv X pins σ H s) (h:CE X.stack X.prog X.w H s Q u s'):EP X pins σ Q u s':=by
 obtain⟨v,H',os,bare,un,hok,r,q⟩:=h
 obtain⟨hh,g,d,t,os'⟩:=s'
 obtain rfl:os'=s.os:=os
 exact⟨v,H',I.call (h':=hh) (g':=g) (d':=d) (t':=t) (ch:=[]) un hok bare (λb z=>absurd z (by simp)),r,q⟩
end
def zqN (sp:Sp) (dvs:List V) (E:XK) (t:TA):TE:=λσ H Q=>t σ H λvs H1=>sp (vs++dvs) H1 Q E
def zog (C:Addr) (m:Str) (sp:Sp) (dvs:List V) (E:XK) (ta:TE) (t:TA):TE:=λσ H Q=>ta σ H λx H1=>∃a dx fs,x=.ref a∧H1 a=some (.ins C dx fs)∧fs.lookup m=none ∧
 t σ H1 λvs H2=>sp (x::(vs++dvs)) H2 Q E
def zoh (C:Addr) (sp:Sp) (dvs:List V) (E:XK) (t:TA):TE:=λσ H Q=>t σ H λvs H1=>∀x dx,H1 x=none→H1 dx=none→dx≠x →
 sp (.ref x::(vs++dvs)) (upd (upd H1 dx (.own x)) x (.ins C dx [])) (λv H2=>v=.non∧Q (.ref x) H2) E
def Binds (K:PySem.W.Frag) (fd:FuncData) (ps:List Str) (ds:List Value):Prop :=
 ∀(s:Shared) (us:List Value),K.In s.heap→(us++ds).length=ps.length→BindsTo s fd ⟨us,[]⟩ (ps.zip (us++ds))
theorem Binds.all {K:PySem.W.Frag} {fd:FuncData} {ps:List Str} (h:∀us:List Value,us.length=ps.length→bindArgs fd ⟨us,[]⟩=pure (ps.zip us)):Binds K fd ps []:=λs us _ hl=>by
 rw[List.append_nil] at hl ⊢
 exact .of_eq (h us hl)
def zgu (CX:CXT) (X:Cx) (E:XK):Prop:=∀(pins:List (Addr×Obj)) (σ:St) (H:Hp) (s:Shared) (e:Value) (s':Shared),Inv X pins σ H s→CX X.stack H s E e s'→X.xe e s'
section
variable {X : Cx} {CX : CXT} {k : Nat} {f C : Addr} {fd : FuncData} {ps : List Str} {sp : Sp} {dvs : List V} {ds : List Value} {E : XK} {x m : Str} {p pos apos : Pos} {e o : Expr} {es : List Expr} {ta : TE} {t : TA}
theorem zmS {pins:List (Addr×Obj)} {σ:St} {H:Hp} {s:Shared} {Q:VK} {us:List Value} {vs:List V} (F:FnOk X.prog X.w X.K X.mg X.base CX k f fd ps sp) (hr:Room k X.A) (hb:Binds X.K fd ps ds) (hd:Vals dvs ds) (hx:zgu CX X E)
  (I:Inv X pins σ H s) (r:Vals vs us) (h:sp (vs++dvs) H Q E):wpAny (model X.prog X.w) X.A (call (.ref f) us) (EP X pins σ Q) X.xe s:=by
 have r2:Vals (vs++dvs) (us++ds):=r.append hd
 have hl:(us++ds).length=ps.length:=by rw[←r2.length];exact F.len _ _ _ _ h
 refine wpAny_call (codeAny_mono (F.run X.A X.stack s H ⟨us,[]⟩ (us++ds) (vs++dvs) Q E hr I.env0 (hb s us I.kIn hl) r2 h) λr s' hq=>?_)
 cases r with
 | error e=>exact hx pins σ H s e s' I hq
 | ok fl =>
  cases fl with
  | ret u=>exact I.after hq
  | next=>exact False.elim hq
  | brk=>exact False.elim hq
  | cont=>exact False.elim hq
theorem zpU (F:FnOk X.prog X.w X.K X.mg X.base CX k f fd ps sp) (hr:Room k X.A) (hg:Gl X x) (hm:X.mg x=some (.ref f)) (hk:PySem.W.keepIn X.K (.ref f)=true) (hb:Binds X.K fd ps ds) (hd:Vals dvs ds) (hx:zgu CX X E)
  (ha:PA X (e::es) t) (hdb:(x == ("__debug__":Str))=false:=by decide) (he:starEach (e::es) X.env=(false,eval e X.env)::starEach es X.env:=by rfl) (hpl:(backTo pos (starEach es X.env)).any (·.1)=false:=by rfl) :
  PE X (.Call (.Name x p) (e::es) [] pos) (zqN sp dvs E t):=by
 intro pins s σ H Q I h
 refine wpAny_Call_Name_kw (zi6 I hg hm ?_ hdb)
 refine PySem.W.callWith_K (h₀:=X.base) I.ok.mod.kin hk (thn (ha pos pins s σ H _ I h) λus s1 ⟨vs,H1,I1,r,q⟩=>⟨I1.kIn,?_⟩) he hpl
 exact zmS F hr hb hd hx I1 r q
theorem zpR {pl:Sem Bool} (he:PE X o ta) (c:Cls X.K C) (hm:Meth X.K C m f) (F:FnOk X.prog X.w X.K X.mg X.base CX k f fd ps sp) (hr:Room k X.A) (hb:Binds X.K fd ps ds) (hd:Vals dvs ds) (hx:zgu CX X E) (ha:PA X (e::es) t)
  (hst:starEach (e::es) X.env=(false,eval e X.env)::starEach es X.env:=by rfl) (hpl:(backTo pos (starEach es X.env)).any (·.1)=false:=by rfl)
  (ht:eval (.Call (.Attribute o m apos) (e::es) [] pos) X.env=(do
   let ov ←eval o X.env
   standAt apos.atName
   let (f,first) ←holding [ov] (getMethod ov m pl)
   callWith pos f first (backTo pos (starEach (e::es) X.env)) (backToKw pos (keywordEach [] X.env))):=by rfl) :
  PE X (.Call (.Attribute o m apos) (e::es) [] pos) (zog C m sp dvs E ta t):=by
 intro pins s σ H Q I h
 refine PySem.W.methodCall_KW (pl:=pl) (thn (he pins s σ H _ I h) λu s1 ⟨x,H1,I1,rx,a,dx,fs,ex,ea,l,q⟩=>?_) ht
 subst ex
 obtain rfl:u=Value.ref a:=rx
 refine zgd I1 ea c hm l ?_
 refine PySem.W.callWith_K (first:=[.ref a]) (h₀:=X.base) I.ok.mod.kin hm.kp (thn (ha pos pins s1 σ H1 _ I1 q) λus s2 ⟨vs,H2,I2,r,q2⟩=>⟨I2.kIn,?_⟩) hst hpl
 exact zmS (us:=.ref a::us) (vs:=.ref a::vs) F hr hb hd hx I2 (.cons rfl r) q2
theorem zoq {pl:Sem Bool} (he:PE X o ta) (c:Cls X.K C) (hm:Meth X.K C m f) (F:FnOk X.prog X.w X.K X.mg X.base CX k f fd ps sp) (hr:Room k X.A) (hb:Binds X.K fd ps ds) (hd:Vals dvs ds) (hx:zgu CX X E)
  (ht:eval (.Call (.Attribute o m apos) [] [] pos) X.env=(do
   let ov ←eval o X.env
   standAt apos.atName
   let (f,first) ←holding [ov] (getMethod ov m pl)
   callWith pos f first (backTo pos (starEach [] X.env)) (backToKw pos (keywordEach [] X.env))):=by rfl) :
  PE X (.Call (.Attribute o m apos) [] [] pos) (zog C m sp dvs E ta zqz):=by
 intro pins s σ H Q I h
 refine PySem.W.methodCall_KW (pl:=pl) (thn (he pins s σ H _ I h) λu s1 ⟨x,H1,I1,rx,a,dx,fs,ex,ea,l,q⟩=>?_) ht
 subst ex
 obtain rfl:u=Value.ref a:=rx
 refine zgd I1 ea c hm l ?_
 exact PySem.W.callWith_K0 (first:=[.ref a]) I1.kIn hm.kp (zmS (us:=[.ref a]) (vs:=[.ref a]) F hr hb hd hx I1 (.cons rfl .nil) q)
structure Mk (K:PySem.W.Frag) (C f:Addr):Prop where
 makes:PySem.W.makesIn K C=true
 init:PySem.W.findIn K (.ref C) "__init__"=some (some (.ref f))
 fn:PySem.W.isFn K (.ref f)=true
 kp:PySem.W.keepIn K (.ref C)=true
theorem zk9 {pins:List (Addr×Obj)} {σ:St} {H:Hp} {s:Shared} {Q:VK} {us:List Value} {vs:List V} (M:Mk X.K C f) (F:FnOk X.prog X.w X.K X.mg X.base CX k f fd ps sp) (hr:Room (k + 1) X.A) (hb:Binds X.K fd ps ds) (hd:Vals dvs ds)
  (hx:zgu CX X E) (I:Inv X pins σ H s) (r:Vals vs us)
  (h:∀x dx,H x=none→H dx=none→dx≠x→sp (.ref x::(vs++dvs)) (upd (upd H dx (.own x)) x (.ins C dx [])) (λv H2=>v=.non∧Q (.ref x) H2) E) :
  wpAny (model X.prog X.w) X.A (call (.ref C) us) (EP X pins σ Q) X.xe s:=by
 have hq:=h (s.heap.objs.size + 1) s.heap.objs.size (I.hok.fresh (Nat.le_succ _)) (I.hok.fresh (Nat.le_refl _)) (Nat.ne_of_lt (Nat.lt_succ_self _))
 have I2:=Inv.made (C:=C) I
 have r2:Vals (V.ref (s.heap.objs.size + 1)::(vs++dvs)) (Value.ref (s.heap.objs.size + 1)::(us++ds)):=.cons rfl (r.append hd)
 have hl:(Value.ref (s.heap.objs.size + 1)::us++ds).length=ps.length:=by
  have e:=r2.length
  rw[F.len _ _ _ _ hq] at e
  exact e.symm
 refine wpAny_call (zoS (f:=f) I.kIn M.makes M.init (beq_iff_eq.mp M.fn) (codeAny_mono (F.run _ X.stack _ _ ⟨Value.ref (s.heap.objs.size + 1)::us,[]⟩ (Value.ref (s.heap.objs.size + 1)::(us++ds)) _ _ E (hr.make C us [])
  (I2.env0.make C us []) (hb _ (Value.ref (s.heap.objs.size + 1)::us) I2.kIn hl) r2 hq) λr s' hq'=>?_))
 cases r with
 | error e=>exact hx pins σ _ _ e s' I2 hq'
 | ok fl =>
  cases fl with
  | ret u =>
   obtain⟨v,H',I3,rv,ev,q3⟩:=I2.after hq'
   subst ev
   exact⟨rv,⟨V.ref (s.heap.objs.size + 1),H',I3,rfl,q3⟩⟩
  | next=>exact False.elim hq'
  | brk=>exact False.elim hq'
  | cont=>exact False.elim hq'
theorem zpS (M:Mk X.K C f) (F:FnOk X.prog X.w X.K X.mg X.base CX k f fd ps sp) (hr:Room (k + 1) X.A) (hg:Gl X x) (hm:X.mg x=some (.ref C)) (hb:Binds X.K fd ps ds) (hd:Vals dvs ds) (hx:zgu CX X E)
  (ha:PA X (e::es) t) (hdb:(x == ("__debug__":Str))=false:=by decide) (he:starEach (e::es) X.env=(false,eval e X.env)::starEach es X.env:=by rfl) (hpl:(backTo pos (starEach es X.env)).any (·.1)=false:=by rfl) :
  PE X (.Call (.Name x p) (e::es) [] pos) (zoh C sp dvs E t):=by
 intro pins s σ H Q I h
 refine wpAny_Call_Name_kw (zi6 I hg hm ?_ hdb)
 refine PySem.W.callWith_K (h₀:=X.base) I.ok.mod.kin M.kp (thn (ha pos pins s σ H _ I h) λus s1 ⟨vs,H1,I1,r,q⟩=>⟨I1.kIn,?_⟩) he hpl
 exact zk9 M F hr hb hd hx I1 r q
theorem zor (M:Mk X.K C f) (F:FnOk X.prog X.w X.K X.mg X.base CX k f fd ps sp) (hr:Room (k + 1) X.A) (hg:Gl X x) (hm:X.mg x=some (.ref C)) (hb:Binds X.K fd ps ds) (hd:Vals dvs ds) (hx:zgu CX X E)
  (hdb:(x == ("__debug__":Str))=false:=by decide):PE X (.Call (.Name x p) [] [] pos) (zoh C sp dvs E zqz):=by
 intro pins s σ H Q I h
 refine wpAny_Call_Name_kw (zi6 I hg hm ?_ hdb)
 exact PySem.W.callWith_K0 I.kIn M.kp (zk9 (us:=[]) M F hr hb hd hx I .nil h)
end
def PK (X:Cx) (kws:List Keyword) (t:TA):Prop :=
 ∀(pos:Pos) (pins:List (Addr×Obj)) (s:Shared) (σ:St) (H:Hp) (Q:List V→Hp→Prop),Inv X pins σ H s→t σ H Q→wpAny (model X.prog X.w) X.A (evalAll ((backToKw pos (keywordEach kws X.env)).map (·.2))) (AP X pins σ Q) X.xe s
section
variable {X : Cx} {CX : CXT} {k : Nat} {f C : Addr} {fd : FuncData} {ps ks : List Str} {sp : Sp} {E : XK} {x m : Str} {p pos apos kpos : Pos} {e o : Expr} {es : List Expr} {kws : List Keyword} {te ta : TE} {t tk : TA} {nm : Option Str}
theorem zqW:PK X [] zqz:=λ_ _ _ _ H Q I h=>wpAny_evalAll_nil ⟨[],H,I,.nil,h⟩
theorem zpP (ha:PE X e te) (hr:PK X kws t):PK X (⟨nm,e,kpos⟩::kws) (zqL te t):=by
 intro pos pins s σ H Q I h
 show wpAny _ _ (evalAll ((do let v ←eval e X.env;standAt pos;pure v)::(backToKw pos (keywordEach kws X.env)).map (·.2))) _ _ s
 refine wpAny_evalAll_cons (wpAny_bind (thn (ha pins s σ H _ I h) λu s1 ⟨x,H1,I1,r1,q1⟩=>wpAny_bind (wpAny_standAt (wpAny_pure ?_))))
 exact thn (hr pos pins s1 σ H1 _ I1 q1) λus s2 ⟨xs,H2,I2,r2,q2⟩=>⟨x::xs,H2,I2,.cons r1 r2,q2⟩
variable {g : List Value → List Value → List Value} {gV : List V → List V → List V}
end
structure FnScope (N P:List Str) (sc:Scope):Prop where
 kind:sc.kind=.function
 co:sc.isCoroutine=false
 gen:sc.isGenerator=false
 nd:N.Nodup
 pre:N.take P.length=P
 par:∀x∈P,sc.names.lookup x=some .local∨sc.names.lookup x=some .cell
 nofree:∀y∈sc.names,y.2≠.free
theorem zkb {kindOf:Str→Option NameKind} {x:Str}:∀{binds:List (Str×Value)} {m:Str→Option Value},(∀v,(x,v) ∉ binds)→bindL kindOf binds m x=m x
 | [],_,_=>rfl
 | (n,v)::r,m,h=>by
  unfold bindL
  rw[zkb λw hw=>h w (List.mem_cons_of_mem _ hw)]
  split
  ·have:x≠n:=by rintro rfl;exact h v List.mem_cons_self
   simp [this]
  ·rfl
theorem zkd {kindOf:Str→Option NameKind} {x:Str}:∀{binds:List (Str×Value)} {m:Str→Option Value},(∀v,(x,v) ∉ binds)→bindC kindOf binds m x=m x
 | [],_,_=>rfl
 | (n,v)::r,m,h=>by
  unfold bindC
  rw[zkd λw hw=>h w (List.mem_cons_of_mem _ hw)]
  split
  ·rfl
  ·have:x≠n:=by rintro rfl;exact h v List.mem_cons_self
   simp [this]
theorem zkc {kindOf:Str→Option NameKind} {x:Str} {v:Value}:∀{P:List Str} {vs:List Value} {i:Nat} {m:Str→Option Value},P.Nodup→P[i]? = some x→vs[i]? = some v→kindOf x=some .local →
  bindL kindOf (P.zip vs) m x=some v
 | [],_,_,_,_,h,_,_=>by simp at h
 | _::_,[],_,_,_,_,h,_=>by simp at h
 | p::P,w::vs,0,m,nd,h1,h2,hk=>by
  simp at h1 h2;subst h1;subst h2
  show bindL kindOf ((p,w)::P.zip vs) m p=_
  unfold bindL
  rw[zkb λv hv=>(List.nodup_cons.mp nd).1 (List.of_mem_zip hv).1,if_pos hk]
  simp
 | p::P,w::vs,i + 1,m,nd,h1,h2,hk=>by
  show bindL kindOf ((p,w)::P.zip vs) m x=_
  unfold bindL
  exact zkc (i:=i) (List.nodup_cons.mp nd).2 (by simpa using h1) (by simpa using h2) hk
theorem zke {kindOf:Str→Option NameKind} {x:Str} {v:Value}:∀{P:List Str} {vs:List Value} {i:Nat} {m:Str→Option Value},P.Nodup→P[i]? = some x→vs[i]? = some v→kindOf x≠some .local →
  bindC kindOf (P.zip vs) m x=some v
 | [],_,_,_,_,h,_,_=>by simp at h
 | _::_,[],_,_,_,_,h,_=>by simp at h
 | p::P,w::vs,0,m,nd,h1,h2,hk=>by
  simp at h1 h2;subst h1;subst h2
  show bindC kindOf ((p,w)::P.zip vs) m p=_
  unfold bindC
  rw[zkd λv hv=>(List.nodup_cons.mp nd).1 (List.of_mem_zip hv).1,if_neg hk]
  simp
 | p::P,w::vs,i + 1,m,nd,h1,h2,hk=>by
  show bindC kindOf ((p,w)::P.zip vs) m x=_
  unfold bindC
  exact zke (i:=i) (List.nodup_cons.mp nd).2 (by simpa using h1) (by simpa using h2) hk
def start (N:List Str) (vs:List V):St:=vs.map some++List.replicate (N.length - vs.length) none
def zqC (CX:CXT) (P:Program) (w:World) (K:PySem.W.Frag) (mg:Str→Option Value) (base:Heap) (N:List Str) (qual:Str) (scope:Scope) (f:Addr) (cd:Value) (A:Around) (outer:List Env) (s:Shared) (H:Hp) (E:XK):Cx where
 prog:=P
 w:=w
 K:=K
 mg:=mg
 base:=base
 A:=A.deeper (envOfC qual scope s.heap.objs.size f cd)
 N:=N
 s_0:=s
 H_0:=H
 env:=envOfC qual scope s.heap.objs.size f cd
 outer:=outer
 stack:=envOfC qual scope s.heap.objs.size f cd::outer
 ex:=[]
 calm:=true
 fn:=λ_=>true
 pn:=[]
 xe:=λe s'=>wpAny (model P w) (A.deeper (envOfC qual scope s.heap.objs.size f cd)) (leaving (envOfC qual scope s.heap.objs.size f cd) e) (λ_ s''=>CX outer H s E e s'') (λe' s''=>CX outer H s E e' s'') s'
theorem zlA {sc:Scope} {n:Nat} {x:Str} (h:sc.names.lookup x=some .cell):∃c,(cellsFrom n sc.names []).lookup x=some c:=by
 have q:=PySem.W.cellsFrom_some sc.names n [] (.inl h)
 exact Option.isSome_iff_exists.mp q
theorem zny {CX:CXT} {P:Program} {w:World} {K:PySem.W.Frag} {mg:Str→Option Value} {base:Heap} {N ps:List Str} {qual:Str} {scope:Scope} {f:Addr} {cd:Value} {A:Around} {outer:List Env} {s s1:Shared} {H:Hp} {E:XK} {us:List Value} {vs:List V}
  (S:FnScope N ps scope) (hd:A.handled=none) (e0:Env0 P w K mg base A outer s H) (hl:vs.length=ps.length) (r:Vals vs us)
  (x:InCallC s s.heap.objs.size (bindL (envOfC qual scope s.heap.objs.size f cd).kindOf (ps.zip us) λ_=>none) (cellsFrom (s.heap.objs.size + 1) scope.names []) (bindC (envOfC qual scope s.heap.objs.size f cd).kindOf (ps.zip us) λ_=>none) s1) :
  Inv (zqC CX P w K mg base N qual scope f cd A outer s H E) [] (start N vs) H s1:=by
 have hpl:ps.length≤N.length:=by have:=congrArg List.length S.pre;rw[List.length_take] at this;omega
 obtain⟨h1,tk,rfl,hk⟩:=x.done
 have noA:∀b:Addr,b ∉ (zqC CX P w K mg base N qual scope f cd A outer s H E).ex:=λb z=>absurd (show b∈([]:List Addr) from z) (by simp)
 refine⟨⟨e0.mod,S.kind,rfl,rfl,Nat.le_refl _,λy z c h1 h2=>?_,λy hy=>?_,λy c _ h=>?_,λ_=>hd,Around.frames_deeper e0.frames,.inr ⟨rfl,rfl⟩,λb z=>absurd z (noA b),e0.bs,e0.bsz,λb _ _=>noA b,λb z=>absurd z (noA b),e0.funs,e0.frf⟩,
  rfl,e0.bare,Un.kept hk,⟨_,x.toInCall.ns,λi y v h1 h2 h3=>?_⟩,λy c h=>⟨_,x.cell y c h⟩,e0.hok.fresh (Nat.le_refl _),λy c h=>?_,λp hp=>absurd (show p∈([]:List (Addr×Obj)) from hp) (by simp),e0.hok.kept hk,?_⟩
 ·exact name_of_addr x.apart (PySem.mem_of_lookup h1) (PySem.mem_of_lookup h2)
 ·have hy:scope.names.lookup y=some .cell∨scope.names.lookup y=some .free:=hy
  rcases hy with hy | hy
  ·exact zlA hy
  ·exact absurd rfl (S.nofree _ (PySem.mem_of_lookup hy))
 ·exact Nat.le_of_lt (x.above y c (PySem.mem_of_lookup h))
 ·have hi:i < vs.length:=by
   unfold start at h2
   by_cases hi:i < vs.length
   ·exact hi
   ·rw[List.getElem?_append_right (by simpa using hi)] at h2
    rw[List.getElem?_replicate] at h2
    split at h2 <;> cases h2
  have ha:vs[i]? = some v:=by
   unfold start at h2
   rw[List.getElem?_append_left (by simpa using hi),List.getElem?_map] at h2
   cases e:vs[i]? with
   | none=>rw[e] at h2;cases h2
   | some a=>rw[e] at h2;cases h2;rfl
  obtain⟨u,hu,rv⟩:=r.get ha
  have hp:ps[i]? = some y:=by
   rw[←S.pre,List.getElem?_take_of_lt (by omega)];exact h1
  have ndP:ps.Nodup:=by rw[←S.pre];exact S.nd.sublist (List.take_sublist _ _)
  refine⟨u,rv,?_⟩
  rcases S.par y (List.mem_of_getElem? hp) with k | k
  ·exact .inl ⟨k,zkc ndP hp hu k⟩
  ·obtain⟨c,e⟩:=zlA (n:=s.heap.objs.size + 1) k
   refine .inr ⟨.inl k,c,e,?_⟩
   have q:=x.cell y c e
   rw[zke ndP hp hu (by show scope.names.lookup y≠_;rw[k];decide)] at q
   exact q
 ·exact e0.hok.fresh (Nat.le_of_lt (x.above y c (PySem.mem_of_lookup h)))
 ·unfold start
  show _=N.length
  rw[List.length_append,List.length_map,List.length_replicate]
  omega
theorem zr4 {CX:CXT} {P:Program} {w:World} {K:PySem.W.Frag} {mg:Str→Option Value} {base:Heap} {k:Nat} {f:Addr} {name qual:Str} {params:Arguments} {body:List Stmt} {scope:Scope} {dV kV doc pm cdv ct oc:Value} {an od:Option Addr}
  {osl:Array (Option Value)} {N ps:List Str} {sp:Sp} (lk:K.lookup f=some ⟨oc,od,.func (PySem.W.fnOf name qual params body scope dV kV doc pm an cdv ct),osl⟩) (hcd:PySem.W.codeIn K cdv qual=true) (S:FnScope N ps scope)
  (len:∀vs H Q E,sp vs H Q E→vs.length=ps.length)
  (hbody:∀(A:Around) (outer:List Env) (s:Shared) (H:Hp) (vs:List V) (Q:VK) (E:XK),Room k (A.deeper (envOfC qual scope s.heap.objs.size f cdv))→sp vs H Q E →
   ∃t,PSs (zqC CX P w K mg base N qual scope f cdv A outer s H E) body t∧t { nx:=λ_ H'=>Q .non H',rt:=Q } (start N vs) H) :
  FnOk P w K mg base CX (k + 1) f (PySem.W.fnOf name qual params body scope dV kV doc pm an cdv ct) ps sp:=by
 refine⟨len,λA outer s H args us vs Q E hr e0 hb r hsp=>?_⟩
 have hl:=len _ _ _ _ hsp
 have KX:K.In s.heap:=e0.mod.kin.keeps λb o e=>(e0.bs b o e).1
 have lim:s.heap.NoLimit:=e0.mod.nolimit.keeps λb o e=>(e0.bs b o e).1
 have hkind:∀y∈ps.zip us,scope.names.lookup y.1=some .local∨(scope.names.lookup y.1=some .cell∧((cellsFrom (s.heap.objs.size + 1) scope.names []).lookup y.1).isSome=true):=λ⟨n,v⟩ hy=>by
  rcases S.par n (List.of_mem_zip hy).1 with q | q
  ·exact .inl q
  ·exact .inr ⟨q,PySem.W.cellsFrom_some _ _ _ (.inl q)⟩
 refine codeAny_call_function hr.depth (KX _ _ lk) rfl S.co S.gen rfl (PySem.W.codeRec_of KX hcd) (hb _ _ _ _ ?_)
 refine wpAny_newFunctionEnv_cells S.kind hkind λenv he s1 x=>?_
 subst he
 refine⟨lim.keeps x.toInCall.keep,codeAny_func ?_⟩
 obtain⟨t,ht,hq⟩:=hbody A outer s H vs Q E (hr.deeper _) hsp
 have I:Inv (zqC CX P w K mg base N qual scope f cdv A outer s H E) [] (start N vs) H s1:=zny S hr.hd e0 hl r x
 refine wpAny_mono (ht [] s1 (start N vs) H _ I hq) (λfl s' hs=>?_) λe s' hs=>hs
 have fin:∀{σ':St} {H':Hp} {v:V} {u:Value},Inv (zqC CX P w K mg base N qual scope f cdv A outer s H E) [] σ' H' s'→RelV v u→Q v H'→CE outer P w H s Q u s' :=
  λ{σ' H' v u} J rv q=>⟨v,H',J.os,J.bare,J.base,J.hok,rv,q⟩
 cases fl with
 | ret u =>
  obtain⟨v,σ',H',J,rv,q⟩:=hs
  exact fin J rv q
 | next =>
  obtain⟨σ',H',J,q⟩:=hs
  exact fin (v:=V.non) (u:=Value.none) J rfl q
 | brk =>
  obtain⟨_,_,_,q⟩:=hs
  exact False.elim q
 | cont =>
  obtain⟨_,_,_,q⟩:=hs
  exact False.elim q
end L2
namespace L2
open PySem PySem.Spec PyProof.Rows
section
variable {X : Cx} {x : Str} {p pos : Pos} {e : Expr} {es : List Expr} {t : TA} {id T : String} {r : List V → Hp → VK → Prop}
def tCB (r:List V→Hp→VK→Prop) (t:TA):TE:=λσ H Q=>t σ H λvs H1=>r vs H1 Q
theorem zbT (hc:zjk X (.builtin id) r) (hg:Gl X x) (hm:X.mg x=none) (hv:bootBuiltins x=some (.builtin id)) (ha:PA X (e::es) t) (hn:x≠"__name__":=by decide) (hdb:(x == ("__debug__":Str))=false:=by decide)
  (he:starEach (e::es) X.env=(false,eval e X.env)::starEach es X.env:=by rfl) (hpl:(backTo pos (starEach es X.env)).any (·.1)=false:=by rfl):PE X (.Call (.Name x p) (e::es) [] pos) (tCB r t):=by
 intro pins s σ H Q I h
 refine wpAny_Call_Name_kw (zfJ I hg hm hv ?_ hn hdb)
 exact PyProof.Rows.callWith_builtin1 (thn (ha pos pins s σ H _ I h) λus s1 ⟨vs,H1,I1,r1,q1⟩=>hc pins s1 σ H1 vs us Q I1 r1 q1) he hpl
theorem zm4 (hc:zjk X (.type T) r) (hg:Gl X x) (hm:X.mg x=none) (hv:bootBuiltins x=some (.type T)) (ha:PA X (e::es) t) (hn:x≠"__name__":=by decide) (hdb:(x == ("__debug__":Str))=false:=by decide)
  (he:starEach (e::es) X.env=(false,eval e X.env)::starEach es X.env:=by rfl) (hpl:(backTo pos (starEach es X.env)).any (·.1)=false:=by rfl):PE X (.Call (.Name x p) (e::es) [] pos) (tCB r t):=by
 intro pins s σ H Q I h
 refine wpAny_Call_Name_kw (zfJ I hg hm hv ?_ hn hdb)
 exact PyProof.Rows.callWith_type1 (thn (ha pos pins s σ H _ I h) λus s1 ⟨vs,H1,I1,r1,q1⟩=>hc pins s1 σ H1 vs us Q I1 r1 q1) he hpl
end
end L2
namespace HT
open PySem PyProof.Rows
section
open PySem.SeqAt
open PySem.AutoSeq1 (wpAny_loadPart')
open PySem.MeetsSeq PySem.MeetsSeq2 PySem.MeetsSeq3
end
section
variable {prog : Program} {w : World} {A : Around} {E : Value → Shared → Prop} {s : Shared}
def sIx (n d:Nat):Option Int→Nat
 | none=>d
 | some v=>if v < 0 then (v + (n:Int)).toNat else min v.toNat n
theorem sIx_nat (n d k:Nat):sIx n d (some (k:Int))=min k n:=by
 show (if (k:Int) < 0 then ((k:Int) + (n:Int)).toNat else min (k:Int).toNat n)=min k n
 rw[if_neg (by omega),Int.toNat_natCast]
end
end HT
namespace L2
open PySem PySem.Spec PyProof.Rows
abbrev TO:=St→Hp→(Option Int→Hp→Prop)→Prop
def PO (X:Cx) (e:Option Expr) (t:TO):Prop :=
 ∀(pins:List (Addr×Obj)) (s:Shared) (σ:St) (H:Hp) (Q:Option Int→Hp→Prop),Inv X pins σ H s→t σ H Q →
  wpAny (model X.prog X.w) X.A (evalPart e X.env) (λu s'=>∃o H',Inv X pins σ H' s'∧IsPart u o∧Q o H') X.xe s
def zrL (t:TE):TO:=λσ H Q=>t σ H λx H1=>∃i,x=.int i∧Q (some i) H1
section
variable {X : Cx} {e : Expr} {te : TE} {lo hi : Option Expr} {tl th : TO} {pos p2 : Pos}
theorem ziM (h:PE X e te):PO X (some e) (zrL te):=by
 intro pins s σ H Q I hw
 rw[evalPart_some]
 refine thn (h pins s σ H _ I hw) λu s1 ⟨x,H1,I1,r1,q1⟩=>?_
 obtain⟨i,rfl,q⟩:=q1
 obtain⟨t,rfl⟩:=r1
 exact⟨some i,H1,I1,.int i t,q⟩
def SlR (X:Cx) (r:V→Option Int→Option Int→Hp→VK→Prop):Prop :=
 ∀(pins:List (Addr×Obj)) (s:Shared) (σ:St) (H:Hp) (x:V) (v vl vu:Value) (lo hi:Option Int) (sl:Addr) (Q:VK),Inv X pins σ H s→RelV x v→s.heap.IsSliceOf sl vl vu .none→IsPart vl lo→IsPart vu hi→r x lo hi H Q →
  ∃T id,typeLookup (.type T) "__getitem__"=pure (some (.builtin id))∧s.TypeIs v T∧wpAny (model X.prog X.w) X.A (getItem v (.ref sl)) (EP X pins σ Q) X.xe s
def tSl (r:V→Option Int→Option Int→Hp→VK→Prop) (te:TE) (tl th:TO):TE:=λσ H Q=>te σ H λx H1=>tl σ H1 λl H2=>th σ H2 λu H3=>r x l u H3 Q
theorem zlg {r:V→Option Int→Option Int→Hp→VK→Prop} (hr:SlR X r) (he:PE X e te) (hl:PO X lo tl) (hu:PO X hi th):PE X (.Subscript e (.Slice lo hi none p2) pos) (tSl r te tl th):=by
 intro pins s σ H Q I h
 refine Subscript_ (thn (he pins s σ H _ I h) λv s1 ⟨x,H1,I1,r1,q1⟩=>?_)
 refine wpAny_Slice (thn (hl pins s1 σ H1 _ I1 q1) λvl s2 ⟨l,H2,I2,pl,q2⟩=>thn (hu pins s2 σ H2 _ I2 q2) λvu s3 ⟨u,H3,I3,pu,q3⟩=>?_)
 rw[evalPart_none]
 refine wpAny_pure ?_
 have I4:Inv X pins σ H3 { s3 with heap:=s3.heap.push { cls:=.type "slice",data:=.fields #[vl,vu,.none] } }:=I3.kept (t':=s3.toks) λb ob q=>Heap.get?_push_of_some _ q
 obtain⟨T,id,hT,ht,hg⟩:=hr pins { s3 with heap:=s3.heap.push { cls:=.type "slice",data:=.fields #[vl,vu,.none] } } σ H3 x v vl vu l u s3.heap.objs.size Q I4 r1 (Heap.IsSliceOf.new ..) pl pu q3
 show wpAny (model X.prog X.w) X.A (subscriptTail e (.Slice lo hi none p2) v (.ref s3.heap.objs.size)) (EP X pins σ Q) X.xe { s3 with heap:=s3.heap.push { cls:=.type "slice",data:=.fields #[vl,vu,.none] } }
 exact tail_any (ops:=[.ref s3.heap.objs.size,v]) ht hT hg (by with_unfolding_all rfl)
def zmo (xs:List V) (lo hi:Option Int):List V:=(xs.drop (HT.sIx xs.length 0 lo)).take (HT.sIx xs.length xs.length hi - HT.sIx xs.length 0 lo)
theorem zkP (xs:List V) (lo hi:Option Int):(zmo xs lo hi).length≤xs.length:=by
 unfold zmo
 rw[List.length_take,List.length_drop]
 omega
end
end L2
namespace L2
open PySem PySem.Spec PyProof.Rows
def ixN (n:Nat) (i:Int):Option Nat:=if 0≤i then (if i < n then some i.toNat else none) else if -(n:Int)≤i then some (i + n).toNat else none
def atI {α:Type} (xs:List α) (i:Int):Option α:=(ixN xs.length i).bind λj=>xs[j]?
theorem znw {n:Nat} {i:Int} {j:Nat} (h:ixN n i=some j):seqIndex? i n=some j∧j < n∧-(n:Int)≤i∧i < n:=by
 unfold ixN at h
 by_cases h0:0≤i
 ·rw[if_pos h0] at h
  by_cases h1:i < n
  ·rw[if_pos h1] at h
   have e:i.toNat=j:=Option.some.inj h
   exact⟨by rw[seqIndex_of h0 h1,e],by omega,by omega,h1⟩
  ·rw[if_neg h1] at h;cases h
 ·rw[if_neg h0] at h
  by_cases h1:-(n:Int)≤i
  ·rw[if_pos h1] at h
   have e:(i + n).toNat=j:=Option.some.inj h
   exact⟨by rw[seqIndex_neg (by omega) h1,e],by omega,h1,by omega⟩
  ·rw[if_neg h1] at h;cases h
theorem znW {α:Type} {xs:List α} {i:Int} {v:α} (h:atI xs i=some v):∃j,seqIndex? i xs.length=some j∧xs[j]? = some v∧j < xs.length∧-(xs.length:Int)≤i∧i < xs.length:=by
 unfold atI at h
 cases e:ixN xs.length i with
 | none=>rw[e] at h;cases h
 | some j =>
  rw[e] at h
  obtain⟨h1,h2,h3,h4⟩:=znw e
  exact⟨j,h1,h,h2,h3,h4⟩
theorem zdi {α:Type} {xs:List α} {j:Nat} {v:α} (h:xs[j]? = some v):atI xs (j:Int)=some v:=by
 have hj:j < xs.length:=(List.getElem?_eq_some_iff.mp h).1
 have e:ixN xs.length (j:Int)=some j:=by
  unfold ixN
  rw[if_pos (by omega),if_pos (by omega)];simp
 unfold atI;rw[e];exact h
def zqv (b:Expr):Prop:=∀o i,subscripted b false o i=operate [o,i] (getItem o i)
def IxR (X:Cx) (r:R2):Prop :=
 ∀(value slice:Expr) (pins:List (Addr×Obj)) (s:Shared) (σ:St) (H:Hp) (x y:V) (v u:Value) (Q:VK),Inv X pins σ H s→RelV x v→RelV y u→r x y H Q →
  subscripted slice false v u=operate [v,u] (getItem v u)→wpAny (model X.prog X.w) X.A (subscriptTail value slice v u) (EP X pins σ Q) X.xe s
def MtR (X:Cx) (id:String) (r:V→List V→Hp→VK→Prop):Prop :=
 ∀(pins:List (Addr×Obj)) (s:Shared) (σ:St) (H:Hp) (x:V) (xs:List V) (v:Value) (us:List Value) (Q:VK),Inv X pins σ H s→RelV x v→Vals xs us→r x xs H Q →
  wpAny (model X.prog X.w) X.A (call (.builtin id) (v::us)) (EP X pins σ Q) X.xe s
section
variable {X : Cx} {a b : Expr} {ta tb : TE} {pos : Pos}
theorem zfp {r:R2} (hr:IxR X r) (ha:PE X a ta) (hb:PE X b tb) (hs:zqv b):PE X (.Subscript a b pos) (tOp r ta tb):=by
 intro pins s σ H Q I h
 exact Subscript_ (zr8 ha hb I h λv u s2 x y H2 I2 rx ry q=>hr a b pins s2 σ H2 x y v u Q I2 rx ry q (hs _ _))
def rIxL (K:PySem.W.Frag):R2:=λx y H Q=>∃p xs i v,x=.ref p∧y=.int i∧SqL K H p xs∧atI xs i=some v∧Q v H
def rIxT (K:PySem.W.Frag):R2:=λx y H Q=>∃p xs i v,x=.ref p∧y=.int i∧SqT K H p xs∧atI xs i=some v∧Q v H
theorem zdL:IxR X (rIxL X.K):=by
 intro value slice pins s σ H x y v u Q I rx ry h hs
 obtain⟨p,xs,i,z,rfl,rfl,hq,he,q⟩:=h
 cases rx
 obtain⟨t,rfl⟩:=ry
 obtain⟨its,r,pl,hz⟩:=I.list hq
 obtain⟨j,h1,h2,h3,h4,h5⟩:=znW he
 obtain⟨w,ew,rw'⟩:=r.get h2
 have hl:=r.length
 have hn:=zlo
 have fin:EP X pins σ Q w s:=⟨z,H,I,rw',q⟩
 by_cases h0:0≤i
 ·have hj:i.toNat=j:=by
   rw[seqIndex_of h0 h5] at h1
   exact Option.some.inj h1
  exact item_listR pl.isList h0 (by omega) (by rw[hj];simpa using ew) fin hs
 ·have hj:(i + (its.toArray.size:Int)).toNat=j:=by
   rw[seqIndex_neg (by omega) h4] at h1
   rw[List.size_toArray,←hl]
   exact Option.some.inj h1
  exact subscriptTail_builtinR (x:=w) pl.isList.typeIs slot_list_getitem.lookup
   (wpAny_getItem_list_neg (Q:=λr s'=>r=w∧EP X pins σ Q r s') pl.isList (by omega) (by rw[List.size_toArray] <;> omega) (by omega) (by rw[hj];simpa using ew) ⟨rfl,fin⟩) hs
theorem zjY:IxR X (rIxT X.K):=by
 intro value slice pins s σ H x y v u Q I rx ry h hs
 obtain⟨p,xs,i,z,rfl,rfl,hq,he,q⟩:=h
 cases rx
 obtain⟨t,rfl⟩:=ry
 obtain⟨its,r,pl,hz⟩:=I.tuple hq
 obtain⟨j,h1,h2,h3,h4,h5⟩:=znW he
 obtain⟨w,ew,rw'⟩:=r.get h2
 have hl:=r.length
 have hn:=zlo
 have fin:EP X pins σ Q w s:=⟨z,H,I,rw',q⟩
 exact subscriptTail_builtinR (x:=w) pl.typeIs slot_tuple_getitem.lookup
  (getItem_tuple (j:=j) (Q:=λr s'=>r=w∧EP X pins σ Q r s') pl (by omega) (by omega) (by rw[List.size_toArray,←hl];exact h1) (by simpa using ew) ⟨rfl,fin⟩) hs
theorem zma (its:List Value) (n j:Nat) (u:Value):Obj.mapSeq (·.setIfInBounds j u) { cls:=.type "list",data:=.seq its.toArray n }={ cls:=.type "list",data:=.seq (its.set j u).toArray n }:=by
 simp [Obj.mapSeq]
theorem Inv.lst {pins:List (Addr×Obj)} {σ:St} {H:Hp} {s:Shared} {p:Addr} {xs:List V} (I:Inv X pins σ H s) (h:H p=some (.lst xs)) :
  ∃(its:List Value) (n:Nat),Vals xs its∧s.heap.get? p=some { cls:=.type "list",data:=.seq its.toArray n }∧xs.length≤sizeLine:=by
 obtain⟨z,its,n,r,e⟩:=I.hok p _ h
 exact⟨its,n,r,e,z⟩
theorem Inv.lstUpd {pins:List (Addr×Obj)} {σ:St} {H:Hp} {s:Shared} {p:Addr} {xs ys:List V} {its its':List Value} {n n':Nat} {f:Obj→Obj} (I:Inv X pins σ H s) (h:H p=some (.lst xs))
  (ho:s.heap.get? p=some { cls:=.type "list",data:=.seq its.toArray n }) (hf:f { cls:=.type "list",data:=.seq its.toArray n }={ cls:=.type "list",data:=.seq its'.toArray n' }) (r:Vals ys its') (hz:ys.length≤sizeLine) (t:Nat) :
  Inv X pins σ (upd H p (.lst ys)) { s with heap:=s.heap.update p f,toks:=t }:=by
 have e:(s.heap.update p f).get? p=some { cls:=.type "list",data:=.seq its'.toArray n' }:=by
  rw[Heap.get?_update_self f ho (by rw[hf] <;> rfl),hf]
 refine I.write (x:=p) (e:=p) (by rw[h];trivial) (.inl rfl) (λb u hb q=>(Heap.get?_update_other _ _ (Ne.symm hb)).trans q) ⟨_,e⟩ ?_
 exact⟨hz,its',n',r,e⟩
def zrW:V→V→V→Hp→(Hp→Prop)→Prop:=λo i v H Q=>∃p xs k j,o=.ref p∧i=.int k∧H p=some (.lst xs)∧ixN xs.length k=some j∧Q (upd H p (.lst (xs.set j v)))
theorem zk8:PSet X zrW:=by
 intro pins s σ H o i v ov iv u Q I ro ri rv h
 obtain⟨p,xs,k,j,rfl,rfl,hp,hj,q⟩:=h
 cases ro
 obtain⟨t,rfl⟩:=ri
 obtain⟨its,n,r,ho,hz⟩:=I.lst hp
 obtain⟨h1,h2,h3,h4⟩:=znw hj
 have hl:=r.length
 have hn:=zlo
 have I':Inv X pins σ (upd H p (.lst (xs.set j v))) { s with heap:=s.heap.update p (Obj.mapSeq (·.setIfInBounds j u)) } :=
  I.lstUpd hp ho (zma its n j u) (r.set rv j) (by rw[List.length_set];exact hz) s.toks
 by_cases h0:0≤k
 ·have hk:k.toNat=j:=by
   rw[seqIndex_of h0 h4] at h1
   exact Option.some.inj h1
  exact PySem.W.ki_setAt ho h0 (by omega) (by rw[List.size_toArray,←hl];exact h4) (by rw[hk];exact⟨_,I',q⟩)
 ·have hk:(k + (its.toArray.size:Int)).toNat=j:=by
   rw[seqIndex_neg (by omega) h3] at h1
   rw[List.size_toArray,←hl]
   exact Option.some.inj h1
  exact PySem.W.ki_setBack ho (by omega) (by rw[List.size_toArray,←hl];exact h3) (by omega) (by rw[hk];exact⟨_,I',q⟩)
theorem zjw (lo hi:Option Int) (n:Nat):(sliceBounds lo hi none n).1=((HT.sIx n 0 lo:Nat):Int)∧(sliceBounds lo hi none n).2.1=((HT.sIx n n hi:Nat):Int)∧(sliceBounds lo hi none n).2.2=1:=by
 refine⟨?_,?_,rfl⟩
 ·cases lo with
  | none=>simp [sliceBounds,HT.sIx]
  | some i =>
   simp only [sliceBounds,HT.sIx,Option.getD_none,show (1:Int) > 0 by decide,if_true]
   by_cases h:i < 0
   ·simp only [h,if_true] <;> omega
   ·simp only [h,if_false] <;> omega
 ·cases hi with
  | none=>simp [sliceBounds,HT.sIx]
  | some i =>
   simp only [sliceBounds,HT.sIx,Option.getD_none,show (1:Int) > 0 by decide,if_true]
   by_cases h:i < 0
   ·simp only [h,if_true] <;> omega
   ·simp only [h,if_false] <;> omega
theorem ziz (its:List Value) (lo hi:Option Int):slicePick its.toArray lo hi none=((its.drop (HT.sIx its.length 0 lo)).take (HT.sIx its.length its.length hi - HT.sIx its.length 0 lo)).toArray:=by
 obtain⟨h1,h2,h3⟩:=zjw lo hi its.toArray.size
 unfold slicePick
 rw[h1,h2,h3]
 simp only [sliceRange_one,pick_run,List.size_toArray] <;> rfl
def rSlL (K:PySem.W.Frag):V→Option Int→Option Int→Hp→VK→Prop:=λx lo hi H Q=>∃a xs,x=.ref a∧SqL K H a xs∧∀p,H p=none→Q (.ref p) (upd H p (.lst (zmo xs lo hi)))
theorem zmM:SlR X (rSlL X.K):=by
 intro pins s σ H x v vl vu lo hi sl Q I rx hs pl pu h
 obtain⟨a,xs,rfl,hx,q⟩:=h
 cases rx
 obtain⟨its,r,ht,hz⟩:=I.list hx
 have hlen:=r.length
 refine⟨"list",_,slot_list_getitem.lookup,ht.isList.typeIs,?_⟩
 refine wpAny_getItem_list_slice ht.isList hs pl pu .none (by simp) ?_ (by rw[List.size_toArray] <;> omega)
 rw[ziz,←hlen]
 refine⟨.ref s.heap.objs.size,_,I.laid (t':=s.toks) (o:=.lst (zmo xs lo hi)) (λb ob q=>Heap.get?_push_of_some _ q) (Nat.le_refl _) ?_,rfl,q _ (I.hok.fresh (Nat.le_refl _))⟩
 exact⟨Nat.le_trans (zkP xs lo hi) hz,_,0,(r.drop (HT.sIx xs.length 0 lo)).take (HT.sIx xs.length xs.length hi - HT.sIx xs.length 0 lo),Heap.get?_push_size _ rfl⟩
def zja:V→Bool
 | .non=>true
 | .bl _=>true
 | .int _=>true
 | .str _=>true
 | _=>false
def eqV:V→V→Bool
 | .non,.non=>true
 | .bl a,.bl b=>a == b
 | .bl a,.int b=>(if a then 1 else 0) == b
 | .int a,.bl b=>a == (if b then 1 else 0)
 | .int a,.int b=>a == b
 | .str a,.str b=>a == b
 | _,_=>false
theorem zrf {A:Around} {s:Shared} {y x:V} {u v:Value} (ry:RelV y u) (rx:RelV x v) (fy:zja y=true) (fx:zja x=true):SeqAt.EqAt A s u v (eqV y x):=by
 cases y with
 | non =>
  cases ry
  cases x with
  | non=>cases rx;exact SeqAt.EqAt.same _
  | bl b=>cases rx;exact SeqAt.EqAt.none_bool b
  | int b=>obtain⟨t,rfl⟩:=rx;exact SeqAt.EqAt.none_int b t
  | str b=>obtain⟨t,rfl⟩:=rx;exact SeqAt.EqAt.none_str b t
  | _=>exact absurd (show false=true from fx) Bool.false_ne_true
 | bl a =>
  cases ry
  cases x with
  | non=>cases rx;exact SeqAt.EqAt.bool_none a
  | bl b=>cases rx;exact SeqAt.EqAt.bool_bool a b
  | int b=>obtain⟨t,rfl⟩:=rx;exact SeqAt.EqAt.bool_int a b t
  | str b=>obtain⟨t,rfl⟩:=rx;exact SeqAt.EqAt.bool_str a b t
  | _=>exact absurd (show false=true from fx) Bool.false_ne_true
 | int a =>
  obtain⟨t',rfl⟩:=ry
  cases x with
  | non=>cases rx;exact SeqAt.EqAt.int_none a t'
  | bl b=>cases rx;exact SeqAt.EqAt.int_bool a t' b
  | int b=>obtain⟨t,rfl⟩:=rx;exact SeqAt.EqAt.int_int a t' b t
  | str b=>obtain⟨t,rfl⟩:=rx;exact SeqAt.EqAt.int_str a t' b t
  | _=>exact absurd (show false=true from fx) Bool.false_ne_true
 | str a =>
  obtain⟨t',rfl⟩:=ry
  cases x with
  | non=>cases rx;exact SeqAt.EqAt.str_none a t'
  | bl b=>cases rx;exact SeqAt.EqAt.str_bool a t' b
  | int b=>obtain⟨t,rfl⟩:=rx;exact SeqAt.EqAt.str_int a t' b t
  | str b=>obtain⟨t,rfl⟩:=rx;exact SeqAt.EqAt.str_str a t' b t
  | _=>exact absurd (show false=true from fx) Bool.false_ne_true
 | _=>exact absurd (show false=true from fy) Bool.false_ne_true
def eqU (x:V) (u:Value):Bool:=match u with
 | .none=>eqV .non x
 | .bool b=>eqV (.bl b) x
 | .int i _=>eqV (.int i) x
 | .str z _=>eqV (.str z) x
 | _=>false
theorem znJ {x y:V} {u:Value} (r:RelV y u) (f:zja y=true):eqU x u=eqV y x:=by
 cases y with
 | non=>cases r;rfl
 | bl b=>cases r;rfl
 | int i=>obtain⟨t,rfl⟩:=r;rfl
 | str z=>obtain⟨t,rfl⟩:=r;rfl
 | _=>exact absurd (show false=true from f) Bool.false_ne_true
theorem zln {A:Around} {s:Shared} {x:V} {v:Value} (rx:RelV x v) (fx:zja x=true):∀{xs:List V} {us:List Value},Vals xs us→xs.all zja=true→∀u∈us,SeqAt.EqAt A s u v (eqU x u)
 | _,_,.nil,_=>λu hu=>by cases hu
 | y::xs,u::us,.cons r t,f=>λu' hu=>by
  rw[List.all_cons,Bool.and_eq_true] at f
  rcases List.mem_cons.mp hu with rfl | hu
  ·rw[znJ r f.1];exact zrf r rx f.1 fx
  ·exact zln rx fx t f.2 u' hu
theorem zj9:zjk X (.type "list") (λxs H Q=>∃p ys,xs=[.ref p]∧(SqL X.K H p ys∨SqT X.K H p ys)∧∀l,H l=none→Q (.ref l) (upd H l (.lst ys))):=by
 intro pins s σ H xs us Q I r h
 obtain⟨p,ys,rfl,hq,q⟩:=h
 obtain⟨u,rfl,rx⟩:=zqE r
 cases rx
 have fin:∀(its:List Value),Vals ys its→ys.length≤sizeLine→∀(h':Heap) (c':Nat),(∀b o',s.heap.get? b=some o'→h'.get? b=some o') →
   h'.get? s.heap.objs.size=some { cls:=.type "list",dict:=none,data:=.seq its.toArray c',slots:=#[] }→EP X pins σ Q (.ref s.heap.objs.size) { s with heap:=h' }:=λits r' hz h' c' kp e =>
  ⟨.ref s.heap.objs.size,_,I.laid (t':=s.toks) kp (Nat.le_refl _) (show ObjOk X.prog X.w _ h' _ (.lst ys) from ⟨hz,its,c',r',e⟩),rfl,q _ (I.hok.fresh (Nat.le_refl _))⟩
 rcases hq with hq | hq
 ·obtain⟨its,r',pl,hz⟩:=I.list hq
  have hlen:=r'.length
  obtain⟨o,ho,hc,n,hd⟩:=pl.isList
  exact call_list_seq p (.inl rfl) ho hc hd (λh' c' kp e=>fin its r' hz h' c' kp e) (by simp only [List.size_toArray] <;> omega)
 ·obtain⟨its,r',pl,hz⟩:=I.tuple hq
  have hlen:=r'.length
  obtain⟨o,ho,hc,n,hd⟩:=pl
  exact call_list_seq p (.inr rfl) ho hc hd (λh' c' kp e=>fin its r' hz h' c' kp e) (by simp only [List.size_toArray] <;> omega)
def tyV (K:PySem.W.Frag) (T:String) (x:V) (H:Hp):Prop:=match x with
 | .str _=>T="str"
 | .int _=>T="int"
 | .ref p=>(T="list"∧∃xs,SqL K H p xs)∨(T="tuple"∧∃o,K.lookup p=some o∧o.cls=.type "tuple"∧o.dict=none) ∨
   (T="dict"∧((∃kvs,H p=some (.dK kvs))∨∃kvs,H p=some (.dT kvs)))∨(T="set"∧∃S n,H p=some (.set S n))
 | _=>False
theorem zqG {pins:List (Addr×Obj)} {σ:St} {H:Hp} {s:Shared} {T:String} {x:V} {v:Value} (I:Inv X pins σ H s) (r:RelV x v) (ty:tyV X.K T x H) :
  s.TypeIs v T∧∀a,v=.ref a→∃ob,s.heap.get? a=some ob∧ob.dict=none:=by
 cases x with
 | str z =>
  obtain⟨t,rfl⟩:=r
  cases (show T="str" from ty)
  exact⟨typeIs_str s z t,λ_ e=>nomatch e⟩
 | int i =>
  obtain⟨t,rfl⟩:=r
  cases (show T="int" from ty)
  exact⟨typeIs_int s i t,λ_ e=>nomatch e⟩
 | ref p =>
  cases r
  rcases ty with ⟨rfl,xs,hq⟩ | ⟨rfl,o,hk,hc,hd⟩ | ⟨rfl,hk⟩ | ⟨rfl,S,n,hk⟩
  ·obtain⟨its,_,pl,_⟩:=I.list hq
   refine⟨pl.isList.typeIs,λa e=>?_⟩
   cases e
   obtain⟨o,n,e,c,hd,_⟩:=pl
   exact⟨o,e,hd⟩
  ·refine⟨⟨o,I.kIn p o hk,hc⟩,λa e=>?_⟩
   cases e
   exact⟨o,I.kIn _ o hk,hd⟩
  ·have z:∃o,s.heap.get? p=some o∧o.ExactDict:=by
    rcases hk with ⟨kvs,hk⟩ | ⟨kvs,hk⟩
    ·obtain⟨_,_,_,_,o,_,_,e,ex,_⟩:=I.hok p _ hk
     exact⟨o,e,ex⟩
    ·obtain⟨_,_,_,_,o,_,_,e,ex,_⟩:=I.hok p _ hk
     exact⟨o,e,ex⟩
   obtain⟨o,e,ex⟩:=z
   refine⟨⟨o,e,ex.1⟩,λa e2=>?_⟩
   cases e2
   exact⟨o,e,ex.2.1⟩
  ·obtain⟨o,_,_,_,e,ex,_⟩:=I.hok p _ hk
   refine⟨⟨o,e,ex.1⟩,λa e2=>?_⟩
   cases e2
   exact⟨o,e,ex.2.1⟩
 | _=>exact False.elim ty
def tBM (K:PySem.W.Frag) (T:String) (r:V→List V→Hp→VK→Prop) (to:TE) (t:TA):TE:=λσ H Q=>to σ H λx H1=>tyV K T x H1∧t σ H1 λxs H2=>r x xs H2 Q
variable {o e : Expr} {es : List Expr} {to : TE} {t : TA} {name : Str} {apos cpos : Pos} {T id : String} {r : V → List V → Hp → VK → Prop}
theorem zeF (pa:PlainAttrs T) (slot:Slot T name id) (hty:typeOf (.builtin id)=pure (.type "method_descriptor")) (hm:MtR X id r) (ho:PE X o to) (ha:PA X (e::es) t)
  (hbase:attributeBase o name X.env (eval o X.env)=eval o X.env:=by rfl)
  (hfew:((backTo cpos (starEach (e::es) X.env)).all (λx=>!x.1) && (backToKw cpos (keywordEach [] X.env)).all (λx=>x.1.isSome)
   && decide ((e::es).length + ([]:List Keyword).length + (if ([]:List Keyword).isEmpty then 0 else 1) < 30))=true:=by rfl)
  (hline:(apos.endLine == cpos.line)=true:=by rfl) (hs:starEach (e::es) X.env=(false,eval e X.env)::starEach es X.env:=by rfl) (hplain:(backTo cpos (starEach es X.env)).any (·.1)=false:=by rfl) :
  PE X (.Call (.Attribute o name apos) (e::es) [] cpos) (tBM X.K T r to t):=by
 intro pins s σ H Q I h
 refine wpAny_Call_method_late hbase hfew hline rfl (thn (ho pins s σ H _ I h) λv s1 ⟨x,H1,I1,r1,ty,q1⟩=>?_)
 obtain⟨h1,h2⟩:=zqG I1 r1 ty
 refine⟨T,id,pa,slot,hty,h1,h2,?_⟩
 have hA:=ha cpos pins s1 σ H1 _ I1 q1
 rw[hs] at hA ⊢
 refine Calls.callWith_builtin (by show (false || (backTo cpos (starEach es X.env)).any (·.1))=false;rw[hplain] <;> rfl) (Calls.evalArgs_plain ?_)
 exact thn hA λus s2 ⟨vs,H2,I2,r2,q2⟩=>hm pins s2 σ H2 x vs v us Q I2 r1 r2 q2
end
end L2
namespace L2
open PySem PySem.Spec PyProof.Rows
def MtM (X:Cx) (id:String) (r:V→List V→Hp→VK→Prop):Prop :=
 ∀(pins:List (Addr×Obj)) (s:Shared) (σ:St) (H:Hp) (x:V) (xs:List V) (v:Value) (us:List Value) (Q:VK),Inv X pins σ H s→RelV x v→Vals xs us→r x xs H Q →
  wpAny (model X.prog X.w) X.A (call (.builtin id) (v::us)) (EP X pins σ Q) X.xe s
theorem Vals.one:∀{x:V} {us:List Value},Vals [x] us→∃u,us=[u]∧RelV x u
 | _,_,.cons r .nil=>⟨_,rfl,r⟩
theorem Vals.rep {xs:List V} {us:List Value} (h:Vals xs us):∀k:Nat,Vals (List.replicate k xs).flatten (List.replicate k us).flatten
 | 0=>.nil
 | k + 1=>by
  rw[List.replicate_succ,List.replicate_succ,List.flatten_cons,List.flatten_cons]
  exact Vals.append h (Vals.rep h k)
theorem zj4 (its:List Value):∀(k:Nat) (acc:List Value),
  List.foldl (λx1 x2=>x1++x2) acc.toArray (List.replicate k its.toArray)=(acc++(List.replicate k its).flatten).toArray
 | 0,acc=>by simp
 | k + 1,acc=>by
  have e:acc.toArray++its.toArray=(acc++its).toArray:=by simp
  have e2:(acc++its)++(List.replicate k its).flatten=acc++(List.replicate (k + 1) its).flatten:=by
   rw[List.replicate_succ,List.flatten_cons,List.append_assoc]
  rw[←e2,←zj4 its k (acc++its),←e,List.replicate_succ,List.foldl_cons]
section
variable {X : Cx} {pins : List (Addr × Obj)} {σ : St} {H : Hp} {s : Shared} {l b : Addr} {xs ys zs : List V}
theorem Inv.lset {its its':List Value} {n:Nat} {f:Array Value→Array Value} {t':Nat} (I:Inv X pins σ H s) (hH:H l=some (.lst xs))
  (e:s.heap.get? l=some { cls:=.type "list",data:=.seq its.toArray n }) (hf:f its.toArray=its'.toArray) (hv:Vals ys its') (hz:ys.length≤sizeLine) :
  Inv X pins σ (upd H l (.lst ys)) { s with heap:=s.heap.update l (Obj.mapSeq f),toks:=t' }:=by
 have q:=PySem.IsL.update e f
 rw[hf] at q
 refine I.write (x:=l) (e:=l) (by rw[hH];exact trivial) (.inl rfl) (λb' u hb hu=>(Heap.get?_update_other s.heap (Obj.mapSeq f) (Ne.symm hb)).trans hu) ⟨_,q⟩ ?_
 exact⟨hz,its',_,hv,q⟩
theorem Inv.lnew {its:List Value} {t':Nat} (I:Inv X pins σ H s) (hv:Vals ys its) (hz:ys.length≤sizeLine) :
  Inv X pins σ (upd H s.heap.objs.size (.lst ys)) { s with heap:=s.heap.push { cls:=.type "list",data:=.seq its.toArray },toks:=t' } :=
 I.laid (λ_ _ q=>Heap.get?_push_of_some _ q) (Nat.le_refl _) ⟨hz,its,0,hv,Heap.get?_push_size _ rfl⟩
theorem Inv.fresh (I:Inv X pins σ H s):H s.heap.objs.size=none:=I.hok.fresh (Nat.le_refl _)
theorem Inv.lstM (I:Inv X pins σ H s) (hH:H l=some (.lst xs)):xs.length≤sizeLine∧∃(its:List Value) (n:Nat),Vals xs its∧xs.length=its.length∧s.heap.get? l=some { cls:=.type "list",data:=.seq its.toArray n }:=by
 obtain⟨z,its,n,r,e⟩:=I.hok l _ hH
 exact⟨z,its,n,r,r.length,e⟩
theorem zlk {n:Nat} (h:n≤sizeLine):Builtin.List.listTooLong n=false:=by
 unfold Builtin.List.listTooLong
 exact decide_eq_false (by omega)
end
section
variable {X : Cx}
def zpO:V→List V→Hp→VK→Prop:=λx vs H Q=>∃l xs y,x=.ref l∧vs=[y]∧H l=some (.lst xs)∧xs.length < sizeLine∧Q .non (upd H l (.lst (xs++[y])))
theorem zcX:MtM X "list.append" zpO:=by
 intro pins s σ H x vs v us Q I rx rv h
 obtain⟨l,xs,y,rfl,rfl,hH,hz,q⟩:=h
 cases rx
 obtain⟨u,rfl,ru⟩:=rv.one
 obtain⟨z,its,n,r,hl,e⟩:=I.lstM hH
 refine call_meets F.slot_list_append ⟨_,e,rfl⟩ F.entry_list_append (F.args_list_append_2 _ _) (PySem.list_append l its.toArray n u (by rw[List.size_toArray];omega)) ⟨e,?_⟩
 refine⟨.non,_,I.lset (its':=its++[u]) hH e (by simp) (r.append (.cons ru .nil)) ?_,rfl,q⟩
 rw[List.length_append,List.length_singleton]
 omega
def zpN:V→List V→Hp→VK→Prop:=λx vs H Q=>∃l b xs zs,x=.ref l∧vs=[.ref b]∧H l=some (.lst xs)∧H b=some (.lst zs)∧xs.length + zs.length≤sizeLine∧Q .non (upd H l (.lst (xs++zs)))
theorem zdx:MtM X "list.extend" zpN:=by
 intro pins s σ H x vs v us Q I rx rv h
 obtain⟨l,b,xs,zs,rfl,rfl,hH,hB,hz,q⟩:=h
 cases rx
 obtain⟨u,rfl,ru⟩:=rv.one
 cases ru
 obtain⟨z,its,n,r,hl,e⟩:=I.lstM hH
 obtain⟨z2,its2,n2,r2,hl2,e2⟩:=I.lstM hB
 have hsz:its.toArray.size + its2.toArray.size≤sizeLine:=by rw[List.size_toArray,List.size_toArray];omega
 have hlong:¬(!its.toArray.isEmpty && Builtin.List.listTooLong (its.toArray.size + its2.toArray.size))=true:=by
  rw[zlk hsz,Bool.and_false]
  exact Bool.false_ne_true
 refine call_meets F.slot_list_extend ⟨_,e,rfl⟩ F.entry_list_extend (F.args_list_extend_2 _ _)
  (AutoSeq1.list_extend_list_list_0 l its.toArray n b its2.toArray n2 hlong (by rw[List.size_toArray];omega) (by omega)) ⟨e,e2,?_⟩
 refine⟨.non,_,I.lset (its':=its++its2) hH e (by simp) (r.append r2) ?_,rfl,q⟩
 rw[List.length_append]
 omega
def rCat:R2:=λx y H Q=>∃l b xs zs,x=.ref l∧y=.ref b∧H l=some (.lst xs)∧H b=some (.lst zs)∧xs.length + zs.length≤sizeLine∧∀p,H p=none→Q (.ref p) (upd H p (.lst (xs++zs)))
theorem zdw:OpR X (binaryOp .Add) rCat:=by
 intro pins s σ H x y v u Q I rx ry h
 obtain⟨l,b,xs,zs,rfl,rfl,hH,hB,hz,q⟩:=h
 cases rx
 cases ry
 obtain⟨z,its,n,r,hl,e⟩:=I.lstM hH
 obtain⟨z2,its2,n2,r2,hl2,e2⟩:=I.lstM hB
 refine PySem.P.add_list e e2 ?_ (by rw[List.size_toArray,List.size_toArray];omega)
 have ea:its.toArray++its2.toArray=(its++its2).toArray:=by simp
 rw[ea]
 exact⟨.ref _,_,I.lnew (t':=s.toks) (r.append r2) (by rw[List.length_append];omega),rfl,q _ I.fresh⟩
def rRep:R2:=λx y H Q=>∃l k xs,x=.ref l∧y=.int k∧H l=some (.lst xs)∧-(2 ^ 63)≤k∧k < 2 ^ 63∧xs.length * k.toNat≤sizeLine ∧
 ∀p,H p=none→Q (.ref p) (upd H p (.lst (List.replicate k.toNat xs).flatten))
theorem zp8 {α:Type} (xs:List α) (k:Nat):(List.replicate k xs).flatten.length=k * xs.length:=by
 induction k with
 | zero=>simp
 | succ k ih=>rw[List.replicate_succ,List.flatten_cons,List.length_append,ih,Nat.succ_mul,Nat.add_comm]
theorem zq0:OpR X (binaryOp .Mult) rRep:=by
  intro pins s σ H x y v u Q I rx ry h
  obtain⟨l,k,xs,rfl,rfl,hH,h1,h2,hz,q⟩:=h
  cases rx
  obtain⟨t,rfl⟩:=ry
  obtain⟨z,its,n,r,hl,e⟩:=I.lstM hH
  have hlen:its.toArray.size * k.toNat≤sizeLine:=by rw[List.size_toArray,←hl];exact hz
  have hcap:¬its.toArray.size * k.toNat > (2 ^ 63 - 1) / 8:=by
    have:(sizeLine:Nat)≤(2 ^ 63 - 1) / 8:=by decide
    omega
  have hfit:¬(!Builtin.List.listFitsIndex k)=true:=by
    rw[fitsIndex_both h1 h2]
    exact Bool.false_ne_true
  have hlong:¬Builtin.List.listTooLong (its.toArray.size * k.toNat)=true:=by
    rw[zlk hlen]
    exact Bool.false_ne_true
  have hnew:List.foldl (λx1 x2=>x1++x2) #[] (List.replicate (if its.toArray.isEmpty=true then 0 else k.toNat) its.toArray)=(List.replicate k.toNat its).flatten.toArray:=by
    have f0:∀m:Nat,List.foldl (λx1 x2=>x1++x2) #[] (List.replicate m its.toArray)=(List.replicate m its).flatten.toArray:=λm=>by
      have:=zj4 its m []
      rw[List.nil_append] at this
      exact this
    rw[f0]
    cases its with
    | nil=>simp
    | cons a r'=>rw[if_neg (by simp)]
  refine wpAny_binaryOp_repeat_ref (T:="list") (U:="int") (by decide) ⟨_,e,rfl⟩ (λs'=>typeIs_int s' k t) noFill_list_mul F.fills_int_mul F.slot_int_rmul repeat_list F.slot_int_index.lookup
    (call_meets F.slot_int_rmul (typeIs_int s k t) F.entry_int_rmul (F.args_int_rmul_2 _ _) (int___rmul___int_list k t l its.toArray n)
      ⟨e,rfl,⟨_,e,rfl⟩,call_meets F.slot_list_mul ⟨_,e,rfl⟩ F.entry_list_mul (F.args_list_mul_2 _ _) (AutoListH.list___mul___list_int_3 l its.toArray n k t hfit hcap hlong) ⟨e,?_⟩⟩)
  rw[hnew]
  exact⟨.ref _,_,I.lnew (t':=s.toks) (r.rep k.toNat) (by rw[zp8,Nat.mul_comm];exact hz),rfl,q _ I.fresh⟩
end
section
variable {prog : Program} {w : World} {A : Around} {E : Value → Shared → Prop} {s : Shared}
end
section
variable {X : Cx}
end
end L2
namespace L2
open PySem PySem.Spec PyProof.Rows
theorem Vals.ints:∀{ns:List Int} {us:List Value},Vals (ns.map V.int) us→IntsAre us ns
 | [],us,h=>by
  rw[List.map_nil] at h
  cases h
  exact IntsAre.nil
 | n::ns,us,h=>by
  rw[List.map_cons] at h
  cases h with
  | cons r t =>
   obtain⟨k,rfl⟩:=r
   exact IntsAre.cons n k (Vals.ints t)
theorem Vals.bls:∀{bs:List Bool} {us:List Value},Vals (bs.map V.bl) us→us=bs.map Value.bool
 | [],us,h=>by
  rw[List.map_nil] at h
  cases h
  rfl
 | b::bs,us,h=>by
  rw[List.map_cons] at h
  cases h with
  | cons r t =>
   cases r
   rw[Vals.bls t,List.map_cons]
theorem Vals.ref1 {a:Addr} {us:List Value} (r:Vals [V.ref a] us):us=[Value.ref a]:=by
 cases r with
 | cons r t =>
  cases t
  cases r
  rfl
theorem Vals.int2 {i j:Int} {us:List Value} (r:Vals [V.int i,V.int j] us):∃t u,us=[Value.int i t,Value.int j u]:=by
 cases r with
 | cons r t =>
  cases t with
  | cons r2 t2 =>
   cases t2
   obtain⟨t,rfl⟩:=r
   obtain⟨u,rfl⟩:=r2
   exact⟨t,u,rfl⟩
section
variable {prog : Program} {w : World} {A : Around} {E : Value → Shared → Prop} {s : Shared} {l : Addr} {its : List Value} {ns : List Int} {Q : Value → Shared → Prop}
theorem zpJ (hh:A.handled=none) (hl:s.heap.IsList l its.toArray) (hi:IntsAre its ns)
  (h:∀h' tk t',(∀b o,s.heap.get? b=some o→h'.get? b=some o)→Q (.int ns.sum t') { s with heap:=h',toks:=tk }):wpAny (model prog w) A (call (.builtin "sum") [.ref l]) Q E s:=by
 obtain⟨xs,e⟩:=hi.allInts.items
 have hn:numsOf (intItems xs).toList=ns:=by rw[←e];exact hi.numsOf
 rw[nums_intItems] at hn
 rw[e] at hl
 refine PySem.sum_intListG hh hl λh' tk t' hk=>?_
 have:=h h' tk t' hk
 rw[preSum_eq,List.take_of_length_le (by simp),hn];exact this
theorem zp6 (hh:A.handled=none) (hl:s.heap.IsList l its.toArray) (hi:IntsAre its ns) (hne:0 < ns.length)
  (h:∀h' tk M t',(∀b o,s.heap.get? b=some o→h'.get? b=some o)→M∈ns→(∀a,a∈ns→M≤a)→Q (.int M t') { s with heap:=h',toks:=tk }):wpAny (model prog w) A (call (.builtin "min") [.ref l]) Q E s:=by
 obtain⟨xs,e⟩:=hi.allInts.items
 have hn:numsOf (intItems xs).toList=ns:=by rw[←e];exact hi.numsOf
 rw[nums_intItems] at hn
 subst hn
 rw[e] at hl
 have hsz:0 < xs.size:=by simpa using hne
 refine PySem.min_intList hh hl hsz λv h' tk hv hk=>?_
 obtain⟨t,rfl⟩:=intItems_at hv
 obtain⟨h1,h2⟩:=argBest_lt (numAt xs) (xs.size - 1)
 refine h h' tk _ t hk ?_ λa ha=>?_
 ·rw[numAt_eq];exact PySem.getD_mem (by rw[List.length_map,Array.length_toList];omega)
 ·obtain⟨j,hj,rfl⟩:=mem_getD ha
  rw[List.length_map,Array.length_toList] at hj
  rw[←numAt_eq];exact h2 j (by omega)
end
section
variable {X : Cx}
def rSum (K:PySem.W.Frag):List V→Hp→VK→Prop:=λvs H Q=>∃(a:Addr) (ns:List Int),vs=[V.ref a]∧SqL K H a (ns.map V.int)∧Q (.int ns.sum) H
def rMin (K:PySem.W.Frag):List V→Hp→VK→Prop:=λvs H Q=>∃(a:Addr) (ns:List Int),vs=[V.ref a]∧SqL K H a (ns.map V.int)∧0 < ns.length∧∀m,m∈ns→(∀y,y∈ns→m≤y)→Q (.int m) H
theorem zht (hc:X.calm=true):zjk X (.builtin "sum") (rSum X.K):=by
 intro pins s σ H vs us Q I r h
 obtain⟨a,ns,rfl,hs,q⟩:=h
 obtain⟨its,rv,hl,_⟩:=I.list hs
 rw[Vals.ref1 r]
 exact zpJ (I.ok.hd hc) hl.isList rv.ints λh' tk t' hk=>⟨.int _,H,I.kept hk,⟨_,rfl⟩,q⟩
theorem zlx (hc:X.calm=true):zjk X (.builtin "min") (rMin X.K):=by
 intro pins s σ H vs us Q I r h
 obtain⟨a,ns,rfl,hs,hne,q⟩:=h
 obtain⟨its,rv,hl,_⟩:=I.list hs
 rw[Vals.ref1 r]
 exact zp6 (I.ok.hd hc) hl.isList rv.ints hne λh' tk m t' hk h1 h2=>⟨.int _,H,I.kept hk,⟨_,rfl⟩,q m h1 h2⟩
end
section
variable {X : Cx}
def zqV (K:PySem.W.Frag):V→List V→Hp→VK→Prop:=λx xs H Q=>∃(a:Addr) (ys:List V) (y:V) (j:Nat) (z:V),x=V.ref a∧xs=[y]∧SqL K H a ys∧zja y=true∧ys.all zja=true∧ys[j]? = some z∧eqV z y=true ∧
 (∀(m:Nat) (z':V),m < j→ys[m]? = some z'→eqV z' y=false)∧Q (.int (j:Nat)) H
theorem znD {ys:List V} (f:ys.all zja=true) {j:Nat} {z:V} (h:ys[j]? = some z):zja z=true:=List.all_eq_true.mp f z (List.mem_of_getElem? h)
theorem zoR:MtR X "list.index" (zqV X.K):=by
 intro pins s σ H x xs v us Q I rx rxs h
 obtain⟨a,ys,y,j,z,rfl,rfl,hs,fy,fys,hz,hzj,hno,q⟩:=h
 cases rx
 cases rxs with
 | cons ry rt =>
  rename_i uy ut
  cases rt
  obtain⟨its,rv,⟨⟨cls,dd,data,sl⟩,n,ho,hc,hdn,hd⟩,hlen⟩:=I.list hs
  simp only at hc hd
  subst hc hd
  obtain⟨u,hu,ru⟩:=rv.get hz
  obtain⟨hjl,hje⟩:=List.getElem?_eq_some_iff.mp hu
  have hvl:=rv.length
  have hj:j < its.toArray.size:=by simpa using hjl
  have hsl:=sizeLine_eq
  refine call_meets PySem.F.slot_list_index ⟨_,ho,rfl⟩ PySem.F.entry_list_index (PySem.F.args_list_index_2 _ _)
   (SeqAt.list_indexAt a its.toArray n dd sl uy (eqU y) j hj (by omega) ?_ ?_) ⟨ho,λu' hu'=>zln ry fy rv fys u' (by simpa using hu'),?_⟩
  ·have e1:its.toArray[j]=u:=by simpa using hje
   rw[e1,znJ ru (znD fys hz)]
   exact hzj
  ·intro m hm hmj
   have hml:m < its.length:=by simpa using hm
   have hmy:m < ys.length:=by omega
   have hy':ys[m]? = some ys[m]:=List.getElem?_eq_getElem hmy
   obtain⟨u2,hu2,ru2⟩:=rv.get hy'
   obtain⟨_,hme⟩:=List.getElem?_eq_some_iff.mp hu2
   have e1:its.toArray[m]=u2:=by simpa using hme
   rw[e1,znJ ru2 (znD fys hy')]
   exact hno m _ hmj hy'
  ·exact⟨.int (j:Nat),H,I.tok _,⟨_,rfl⟩,q⟩
end
section
variable {X : Cx}
end
theorem zoV {prog:Program} {w:World} {A:Around} {E:Value→Shared→Prop} {s:Shared} {l:Addr} {items:Array Value} {Q:Value→Shared→Prop} (hl:s.heap.IsList l items)
  (h:∀s₂:Shared,s₂={ s with heap:=s.heap.push { cls:=.type "list_iterator",data:=.fields #[.ref l,.int 0 0] } } →
   (s₂.heap.IsListIter s.heap.objs.size l 0∧s₂.heap.IsList l items)→l≠s.heap.objs.size→Q (.ref s.heap.objs.size) s₂):wpAny (model prog w) A (pyIter (.ref l)) Q E s:=by
 have hlt:l < s.heap.objs.size:=by obtain⟨_,e,_⟩:=hl;exact Heap.lt_size e
 exact wpAny_pyIter_list hl (h _ rfl ⟨⟨_,Heap.get?_push_size _ rfl,rfl,rfl⟩,hl.push _⟩ (Nat.ne_of_lt hlt))
theorem zkp {prog:Program} {w:World} {A:Around} {bs:List Bool} {its:List Value} (e:its=bs.map Value.bool) :
  TruthOf prog w A (λi v=>its.toArray[i]? = some v) (λi=>bs.getD i false):=λi v s Q E hv hq=>by
 have hv':its[i]? = some v:=by simpa using hv
 rw[e,List.getElem?_map] at hv'
 obtain⟨b,hb,rfl⟩:=Option.map_eq_some_iff.mp hv'
 have hg:bs.getD i false=b:=by rw[List.getD_eq_getElem?_getD,hb] <;> rfl
 have hq':Q (bs.getD i false) s:=hq
 rw[hg] at hq'
 exact wpAny_truthy_bool hq'
theorem znY:∀bs:List Bool,(List.range bs.length).any (λi=>bs.getD i false)=bs.any id
 | []=>rfl
 | b::bs=>by
  rw[List.length_cons,List.range_succ_eq_map,List.any_cons,List.any_map,List.any_cons,←znY bs]
  all_goals rfl
theorem zkf:∀bs:List Bool,(List.range bs.length).all (λi=>bs.getD i false)=bs.all id
 | []=>rfl
 | b::bs=>by
  rw[List.length_cons,List.range_succ_eq_map,List.all_cons,List.all_map,List.all_cons,←zkf bs]
  all_goals rfl
section
variable {X : Cx}
def rAll (K:PySem.W.Frag):List V→Hp→VK→Prop:=λvs H Q=>∃(a:Addr) (bs:List Bool),vs=[V.ref a]∧SqL K H a (bs.map V.bl)∧Q (.bl (bs.all id)) H
theorem zly (hc:X.calm=true):zjk X (.builtin "all") (rAll X.K):=by
 intro pins s σ H vs us Q I r h
 obtain⟨a,bs,rfl,hs,q⟩:=h
 obtain⟨its,rv,hl,_⟩:=I.list hs
 rw[Vals.ref1 r]
 have hb:=rv.bls
 refine call_all_walk (zoV hl.isList λs₂ e2 st hne=>?_)
 subst e2
 refine⟨_,_,_,_,_,_,_,rfl,Walks.list (A:=X.A.in1) (I.ok.hd hc) _ a hne its.toArray,st,zkp hb,λh' tk hk=>?_⟩
 refine⟨.bl _,H,I.kept λb o eo=>hk b o (λhmem=>?_) (Heap.get?_push_of_some _ eo),?_,q⟩
 ·rcases List.mem_cons.mp hmem with e1 | hmem
  ·exact absurd (e1 ▸ Heap.lt_size eo) (Nat.lt_irrefl _)
  ·cases hmem
 ·show Value.bool _=Value.bool _
  rw[←zkf,hb,List.size_toArray,List.length_map]
end
section
variable {X : Cx} {pins : List (Addr × Obj)} {σ : St} {H : Hp} {s : Shared}
end
section
variable {X : Cx}
end
end L2
namespace L2
open PySem PySem.Spec PyProof.Rows
abbrev zpG (h:Heap) (c:Addr) (v:Option Value):Prop:=h.IsCell c v
def relS (scope sc:Scope):Scope :=
 { scope with names:=scope.names.map λ(n,k)=>if (k == .free && sc.kind == .function && sc.names.lookup n == some .cell) then (n,.cell) else (n,k) }
def zcq (cells:List (Str×Addr)):List (Str×NameKind)→List (Str×Addr)→List (Str×Addr)
 | [],acc=>acc
 | (n,k)::r,acc=>if k == .free then zcq cells r ((n,(cells.lookup n).getD 0)::acc) else zcq cells r acc
theorem zgt (env:Env) (f:Str×NameKind→List (Str×Addr)→Sem (ForInStep (List (Str×Addr))))
  (hf:∀n k c,f (n,k) c=if k == .free then (do let a ←cellOf env n;pure (.yield ((n,a)::c))) else pure (.yield c)) :
  ∀(names:List (Str×NameKind)) (acc:List (Str×Addr)),(∀y∈names,y.2=.free→∃c,env.cells.lookup y.1=some c)→forIn names acc f=pure (zcq env.cells names acc)
 | [],acc,_=>by rw[List.forIn_nil];rfl
 | (n,k)::r,acc,h=>by
  rw[List.forIn_cons,hf]
  have ih:=λacc=>zgt env f hf r acc λy hy=>h y (List.mem_cons_of_mem _ hy)
  unfold zcq
  by_cases hk:(k == NameKind.free)=true
  ·rw[if_pos hk,if_pos hk]
   obtain⟨c,hc⟩:=h (n,k) List.mem_cons_self (by simpa using hk)
   have e:cellOf env n=pure c:=by unfold cellOf;rw[hc]
   rw[e]
   have e2:(env.cells.lookup n).getD 0=c:=by rw[hc];rfl
   rw[e2]
   exact ih _
  ·rw[if_neg hk,if_neg hk]
   exact ih _
theorem zmg {scope:Scope} {env:Env} (h:∀y∈scope.names,y.2=.free→∃c,env.cells.lookup y.1=some c):closureFor scope env=pure (zcq env.cells scope.names []):=by
 simp only [closureFor]
 rw[zgt env _ (λn k c=>rfl) scope.names [] h]
 rfl
theorem zga {α:Type}:∀{l:List (Str×α)} {n:Str} {c:α},(n,c)∈l→∃c',l.lookup n=some c'
 | (k,v)::r,n,c,h=>by
  rw[List.lookup_cons]
  cases hb:n == k with
  | true=>exact⟨_,rfl⟩
  | false =>
   rcases List.mem_cons.mp h with e | h
   ·cases e;simp at hb
   ·exact zga h
theorem zed {cells:List (Str×Addr)}:∀{names:List (Str×NameKind)} {acc:List (Str×Addr)} {n:Str} {c:Addr},(n,c)∈zcq cells names acc→(n,c)∈acc∨((n,.free)∈names∧c=(cells.lookup n).getD 0)
 | [],_,_,_,h=>.inl h
 | (m,k)::r,acc,n,c,h=>by
  unfold zcq at h
  split at h
  ·rename_i hk
   have hk:k=.free:=by simpa using hk
   rcases zed h with h | ⟨h1,h2⟩
   ·rcases List.mem_cons.mp h with e | h
    ·cases e;exact .inr ⟨hk ▸ List.mem_cons_self,rfl⟩
    ·exact .inl h
   ·exact .inr ⟨List.mem_cons_of_mem _ h1,h2⟩
  ·rcases zed h with h | ⟨h1,h2⟩
   ·exact .inl h
   ·exact .inr ⟨List.mem_cons_of_mem _ h1,h2⟩
theorem zft {cells:List (Str×Addr)}:∀{names:List (Str×NameKind)} {acc:List (Str×Addr)} {p:Str×Addr},p∈acc→p∈zcq cells names acc
 | [],_,_,h=>h
 | (m,k)::r,acc,p,h=>by
  unfold zcq
  split
  ·exact zft (List.mem_cons_of_mem _ h)
  ·exact zft h
theorem zfs {cells:List (Str×Addr)}:∀{names:List (Str×NameKind)} {acc:List (Str×Addr)} {n:Str},(n,.free)∈names→(n,(cells.lookup n).getD 0)∈zcq cells names acc
 | (m,k)::r,acc,n,h=>by
  unfold zcq
  rcases List.mem_cons.mp h with e | h
  ·cases e
   exact zft List.mem_cons_self
  ·split
   ·exact zfs h
   ·exact zfs h
theorem zeO:∀{names:List (Str×NameKind)} {h:Heap} {acc:List (Str×Addr)} {x:Str} {c:Addr},(x,c)∈cellsFrom h.objs.size names acc →
  (x,c)∈acc∨((x,.cell)∈names∧h.objs.size≤c∧zpG (pushCells h names) c none)
 | [],_,_,_,_,h=>.inl h
 | (n,k)::r,h,acc,x,c,hm=>by
  unfold cellsFrom at hm
  unfold pushCells
  split at hm
  ·rename_i hk
   rw[if_pos hk]
   have hk:k=.cell:=by simpa using hk
   rw[←Heap.size_push h { cls:=.type "cell",data:=.cell none }] at hm
   rcases zeO hm with hm | ⟨h1,h2,h3⟩
   ·rcases List.mem_cons.mp hm with e | hm
    ·cases e
     exact .inr ⟨hk ▸ List.mem_cons_self,Nat.le_refl _,_,pushCells_keeps r _ _ _ (Heap.get?_push_size _ rfl),rfl⟩
    ·exact .inl hm
   ·rw[Heap.size_push] at h2
    exact .inr ⟨List.mem_cons_of_mem _ h1,Nat.le_of_succ_le h2,h3⟩
  ·rename_i hk
   rw[if_neg hk]
   rcases zeO hm with hm | ⟨h1,h2,h3⟩
   ·exact .inl hm
   ·exact .inr ⟨List.mem_cons_of_mem _ h1,h2,h3⟩
theorem zfO:∀{names:List (Str×NameKind)} {n:Nat} {acc:List (Str×Addr)} {p:Str×Addr},p∈acc→p∈cellsFrom n names acc
 | [],_,_,_,h=>h
 | (m,k)::r,n,acc,p,h=>by
  unfold cellsFrom
  split
  ·exact zfO (List.mem_cons_of_mem _ h)
  ·exact zfO h
theorem zhw:∀{names:List (Str×NameKind)} {n:Nat} {acc:List (Str×Addr)} {x:Str},(x,.cell)∈names→∃c,(x,c)∈cellsFrom n names acc
 | (m,k)::r,n,acc,x,h=>by
  unfold cellsFrom
  rcases List.mem_cons.mp h with e | h
  ·cases e
   exact⟨n,zfO List.mem_cons_self⟩
  ·split
   ·exact zhw h
   ·exact zhw h
theorem zhv:∀{names:List (Str×NameKind)} {h:Heap} {acc:List (Str×Addr)} {x y:Str} {c:Addr},(∀p∈acc,p.2 < h.objs.size)→(∀x y c,(x,c)∈acc→(y,c)∈acc→x=y) →
  (x,c)∈cellsFrom h.objs.size names acc→(y,c)∈cellsFrom h.objs.size names acc→x=y
 | [],_,_,_,_,_,_,hi,h1,h2=>hi _ _ _ h1 h2
 | (n,k)::r,h,acc,x,y,c,hl,hi,h1,h2=>by
  unfold cellsFrom at h1 h2
  split at h1
  ·rename_i hk
   rw[if_pos hk] at h2
   rw[←Heap.size_push h { cls:=.type "cell",data:=.cell none }] at h1 h2
   refine zhv (h:=h.push _) (λp hp=>?_) (λx y c a b=>?_) h1 h2
   ·rw[Heap.size_push]
    rcases List.mem_cons.mp hp with rfl | hp
    ·exact Nat.lt_succ_self _
    ·exact Nat.lt_succ_of_lt (hl p hp)
   ·rcases List.mem_cons.mp a with e | a <;> rcases List.mem_cons.mp b with e' | b
    ·cases e;cases e';rfl
    ·cases e;exact absurd (hl _ b) (Nat.lt_irrefl _)
    ·cases e';exact absurd (hl _ a) (Nat.lt_irrefl _)
    ·exact hi _ _ _ a b
  ·rename_i hk
   rw[if_neg hk] at h2
   exact zhv hl hi h1 h2
theorem zkI {M:Model} {A:Around} {E:Value→Shared→Prop} {s:Shared} {scope:Scope} {globals:Addr} {closure:List (Str×Addr)} {qual:Str} {func:Option Addr} {code:Value} {around:Env} {builtins:Addr} {Q:Env→Shared→Prop}
  (h:Q (newEnv scope s.heap.objs.size globals (cellsFrom (s.heap.objs.size + 1) scope.names closure) qual func code (some around) builtins)
   { s with heap:=pushCells (s.heap.push { cls:=.type "dict",data:=.dict #[] }) scope.names }) :
  wpAny M A (newFunctionEnv scope globals closure [] qual func code (some around) builtins) Q E s:=by
 simp only [newFunctionEnv,Option.isSome_some,if_true]
 refine wpAny_bind (wpAny_alloc ?_)
 refine wpAny_bind (wpAny_layCells _ (λn k c=>rfl) scope.names closure _ _ ?_)
 rw[show ({ s with heap:=s.heap.push { cls:=.type "dict",data:=.dict #[] } }:Shared).heap.objs.size=s.heap.objs.size + 1 from Heap.size_push ..]
 rw[List.forIn_nil]
 exact wpAny_bind (wpAny_pure (wpAny_pure h))
theorem zfq {sc:Scope}:∀{names:List (Str×NameKind)} {x:Str} {k:NameKind},
  (names.map λ(n,k)=>if (k == NameKind.free && sc.kind == .function && sc.names.lookup n == some .cell) then (n,NameKind.cell) else (n,k)).lookup x=some k →
  ∃k',names.lookup x=some k'∧(k=k'∨(k'=.free∧k=.cell))
 | [],_,_,h=>by simp at h
 | (n,k₀)::r,x,k,h=>by
  have ih:=@zfq sc r x k
  have h':List.lookup x ((if (k₀ == NameKind.free && sc.kind == .function && sc.names.lookup n == some .cell)=true then (n,NameKind.cell) else (n,k₀))::(r.map _))=some k:=h
  cases hx:x == n with
  | true =>
   simp only [List.lookup_cons,hx]
   by_cases hc:(k₀ == NameKind.free && sc.kind == .function && sc.names.lookup n == some .cell)=true
   ·rw[if_pos hc] at h'
    simp only [List.lookup_cons,hx] at h'
    cases h'
    simp only [Bool.and_eq_true,beq_iff_eq] at hc
    exact⟨k₀,rfl,.inr ⟨hc.1.1,rfl⟩⟩
   ·rw[if_neg hc] at h'
    simp only [List.lookup_cons,hx] at h'
    cases h'
    exact⟨_,rfl,.inl rfl⟩
  | false =>
   simp only [List.lookup_cons,hx]
   by_cases hc:(k₀ == NameKind.free && sc.kind == .function && sc.names.lookup n == some .cell)=true
   ·rw[if_pos hc] at h'
    simp only [List.lookup_cons,hx] at h'
    exact ih h'
   ·rw[if_neg hc] at h'
    simp only [List.lookup_cons,hx] at h'
    exact ih h'
structure BlkOk (N:List Str) (sc scope:Scope) (own:List (Str×Nat)):Prop where
 kind:scope.kind=.function
 uniq:∀y∈scope.names,scope.names.lookup y.1=some y.2
 ix:∀p∈own,N[p.2]? = some p.1
 free:∀y∈scope.names,y.2=.free→sc.names.lookup y.1=some .cell∨sc.names.lookup y.1=some .free
 own:∀y∈scope.names,y.2=.local∨y.2=.cell→y.1∈own.map (·.1)∨y.1 ∉ N
def zcU (σ:St):List Nat→St
 | []=>σ
 | v::vs=>(zcU σ vs).set v none
theorem ze6 (σ:St):∀vs:List Nat,(zcU σ vs).length=σ.length
 | []=>rfl
 | v::vs=>by unfold zcU;rw[List.length_set,ze6 σ vs]
theorem zgR {σ:St} {i:Nat} {x:V}:∀{vs:List Nat},(zcU σ vs)[i]? = some (some x)→σ[i]? = some (some x)∧i ∉ vs
 | [],h=>⟨h,by simp⟩
 | v::vs,h=>by
  unfold zcU at h
  by_cases hi:v=i
  ·subst hi
   by_cases hv:v < (zcU σ vs).length
   ·rw[List.getElem?_set_self hv] at h;cases h
   ·rw[List.getElem?_eq_none (by simpa using hv)] at h;cases h
  ·rw[List.getElem?_set_ne hi] at h
   obtain⟨h1,h2⟩:=zgR h
   exact⟨h1,by simp only [List.mem_cons,not_or];exact⟨λe=>hi e.symm,h2⟩⟩
abbrev Cx.blk (X:Cx) (s:Shared) (H:Hp) (scope:Scope) (cenv:Env) (fp:List Addr):Cx:={ X with s_0:=s,H_0:=H,env:=cenv,outer:=X.stack,ex:=fp,fn:=λx=>scope.names.lookup x == some .cell,pn:=[],xe:=λ_ _=>False }
section
variable {X : Cx} {pins : List (Addr × Obj)} {σ : St} {H : Hp} {s : Shared}
theorem zkQ {scope:Scope} {own:List (Str×Nat)} {fp:List Addr} (I:Inv X pins σ H s) (ok:BlkOk X.N X.env.scope scope own) (hN:X.N.Nodup) (hfp:∀b∈fp,zh1 X pins H b∧b < s.heap.objs.size) :
  Inv (X.blk s H scope (compEnvC scope (cellsFrom (s.heap.objs.size + 1) scope.names (zcq X.env.cells scope.names [])) s.heap.objs.size X.env) fp) [] (zcU σ (own.map (·.2))) H { s with heap:=pushCells (s.heap.push { cls:=.type "dict",data:=.dict #[] }) scope.names }:=by
 have hfree:∀y∈scope.names,y.2=.free→∃c,X.env.cells.lookup y.1=some c:=λy hy e=>by
  rcases ok.free y hy e with k | k
  ·exact I.ok.has _ (.inl k)
  ·exact I.ok.has _ (.inr k)
 generalize hcenv:compEnvC scope (cellsFrom (s.heap.objs.size + 1) scope.names (zcq X.env.cells scope.names [])) s.heap.objs.size X.env=cenv
 have kp:∀b o,s.heap.get? b=some o→(pushCells (s.heap.push { cls:=.type "dict",data:=.dict #[] }) scope.names).get? b=some o:=λb o e=>pushCells_keeps _ _ _ _ (Heap.get?_push_of_some _ e)
 have hL:cenv.locals=s.heap.objs.size:=by rw[←hcenv];rfl
 have hcl:cenv.cells=cellsFrom (s.heap.objs.size + 1) scope.names (zcq X.env.cells scope.names []):=by rw[←hcenv];rfl
 have hsc:cenv.scope=relS scope X.env.scope:=by rw[←hcenv];rfl
 rw[←Heap.size_push s.heap { cls:=.type "dict",data:=.dict #[] }] at hcl
 have cm:∀{y c},(y,c)∈zcq X.env.cells scope.names []→X.env.cells.lookup y=some c∧c < s.heap.objs.size:=λ{y c} hm=>by
  rcases zed hm with hm | ⟨h1,rfl⟩
  ·cases hm
  ·obtain⟨c,hc⟩:=hfree _ h1 rfl
   rw[hc]
   obtain⟨w,z⟩:=I.cell _ _ hc
   exact⟨rfl,z.lt⟩
 have mem:∀{y c},cenv.cells.lookup y=some c→(X.env.cells.lookup y=some c∧c < s.heap.objs.size)∨(s.heap.objs.size + 1≤c∧zpG (pushCells (s.heap.push { cls:=.type "dict",data:=.dict #[] }) scope.names) c none):=λ{y c} e=>by
  rw[hcl] at e
  rcases zeO (PySem.mem_of_lookup e) with hm | ⟨_,h2,h3⟩
  ·exact .inl (cm hm)
  ·rw[Heap.size_push] at h2;exact .inr ⟨h2,h3⟩
 have look:∀{y},scope.names.lookup y=some .free→∃c,cenv.cells.lookup y=some c∧X.env.cells.lookup y=some c:=λ{y} hl=>by
  have hy:(y,NameKind.free)∈scope.names:=PySem.mem_of_lookup hl
  obtain⟨c',e'⟩:=zga (zfO (names:=scope.names) (n:=(s.heap.push { cls:=.type "dict",data:=.dict #[] }).objs.size) (zfs (cells:=X.env.cells) (acc:=[]) hy))
  rw[←hcl] at e'
  refine⟨c',e',?_⟩
  rw[hcl] at e'
  rcases zeO (PySem.mem_of_lookup e') with hm | ⟨h1,_,_⟩
  ·exact (cm hm).1
  ·have:=ok.uniq _ h1
   rw[hl] at this;cases this
 have okB:(X.blk s H scope cenv fp).Ok:=by
  refine⟨I.ok.mod,by show cenv.scope.kind=_;rw[hsc];exact ok.kind,by show cenv.globals=_;rw[←hcenv];exact I.ok.glob,by show cenv.builtins=_;rw[←hcenv];exact I.ok.blt,by show s.heap.objs.size≤cenv.locals;rw[hL];exact Nat.le_refl _,
   λy z c e1 e2=>?_,λy hy=>?_,λy c z e=>?_,I.ok.hd,I.ok.frames,.inl rfl,λb hb=>⟨?_,λy c e z=>?_⟩,I.bs,Nat.le_trans I.ok.bsz I.sz,λb o e hb=>?_,λb hb z=>?_,I.stack,I.stkFree⟩
  ·have e1:cenv.cells.lookup y=some c:=e1
   have e2:cenv.cells.lookup z=some c:=e2
   rw[hcl] at e1 e2
   refine zhv (λp hp=>?_) (λy z c a b=>I.ok.inj y z c (cm a).1 (cm b).1) (PySem.mem_of_lookup e1) (PySem.mem_of_lookup e2)
   rw[Heap.size_push]
   exact Nat.lt_succ_of_lt (cm (y:=p.1) (c:=p.2) hp).2
  ·show ∃c,cenv.cells.lookup y=some c
   have key:∀k,cenv.kindOf y=some k→(k=.cell∨k=.free)→∃c,cenv.cells.lookup y=some c:=λk hk hk'=>by
    unfold Env.kindOf at hk
    rw[hsc] at hk
    obtain⟨k',e,r⟩:=zfq hk
    have:k'=.cell∨k'=.free:=by
     rcases r with rfl | ⟨rfl,_⟩
     ·exact hk'
     ·exact .inr rfl
    rcases this with rfl | rfl
    ·obtain⟨c,hm⟩:=zhw (n:=(s.heap.push { cls:=.type "dict",data:=.dict #[] }).objs.size) (acc:=zcq X.env.cells scope.names []) (PySem.mem_of_lookup e)
     obtain⟨c',e'⟩:=zga hm
     exact⟨c',by rw[hcl];exact e'⟩
    ·obtain⟨c,h1,_⟩:=look e
     exact⟨c,h1⟩
   rcases hy with hy | hy
   ·exact key _ hy (.inl rfl)
   ·exact key _ hy (.inr rfl)
  ·have z:(scope.names.lookup y == some NameKind.cell)=true:=z
   have z:scope.names.lookup y=some .cell:=by simpa using z
   have e:cenv.cells.lookup y=some c:=e
   rw[hcl] at e
   rcases zeO (PySem.mem_of_lookup e) with hm | ⟨_,h2,_⟩
   ·rcases zed hm with hm | ⟨h1,_⟩
    ·cases hm
    ·have q:=ok.uniq _ h1
     rw[z] at q;cases q
   ·rw[Heap.size_push] at h2
    exact Nat.le_of_succ_le h2
  ·show b≠cenv.locals
   rw[hL];exact Nat.ne_of_lt (hfp b hb).2
  ·have e:cenv.cells.lookup y=some c:=e
   rcases mem e with ⟨h1,_⟩ | ⟨h1,_⟩
   ·exact (hfp b hb).1.2.2.2.2.1 y c h1 z
   ·have h2:s.heap.objs.size + 1≤b:=by rw[←z];exact h1
    exact absurd (Nat.lt_of_lt_of_le (hfp b hb).2 (Nat.le_of_succ_le h2)) (Nat.lt_irrefl _)
  ·rcases (hfp b hb).1.2.2.2.1 with z | z
   ·exact I.ok.noex b o e z
   ·exact absurd (Nat.lt_of_lt_of_le (Heap.lt_size e) (Nat.le_trans I.ok.bsz z)) (Nat.lt_irrefl _)
  ·rcases List.mem_cons.mp (I.stkSub b z) with z | z
   ·exact (hfp b hb).1.2.1 z
   ·exact (hfp b hb).1.2.2.1 z
 refine⟨okB,rfl,I.bare,Un.kept kp,⟨λ_=>none,?_,λi y av e1 e2 e3=>?_⟩,λy c e=>?_,?_,λy c e=>?_,λp hp=>?_,I.hok.kept kp,by rw[ze6];exact I.len⟩
 ·show Heap.Ns _ cenv.locals _
  rw[hL]
  exact Heap.Ns.keeps (Heap.Ns.new ..) λb o e=>pushCells_keeps _ _ _ _ e
 ·obtain⟨e2,hne⟩:=zgR e2
  have hfr:scope.names.lookup y=some .free∧(cenv.kindOf y=some .cell∨cenv.kindOf y=some .free):=by
   have key:∀k,cenv.scope.names.lookup y=some k→k=.local∨k=.cell∨k=.free→scope.names.lookup y=some .free∧(cenv.kindOf y=some .cell∨cenv.kindOf y=some .free):=λk hk hk'=>by
    have hk0:=hk
    rw[hsc] at hk
    obtain⟨k',e,r⟩:=zfq hk
    have no:¬(k'=.local∨k'=.cell):=λhh=>by
     rcases ok.own _ (PySem.mem_of_lookup e) hh with e' | e'
     ·obtain⟨p,hp,hpy⟩:=List.mem_map.mp e'
      have e3:=ok.ix p hp
      have:p.1=y:=hpy
      rw[this] at e3
      exact hne (List.mem_map.mpr ⟨p,hp,zi5 hN e3 e1⟩)
     ·exact e' (List.mem_of_getElem? e1)
    rcases r with rfl | ⟨rfl,rfl⟩
    ·rcases hk' with rfl | rfl | rfl
     ·exact absurd (.inl rfl) no
     ·exact absurd (.inr rfl) no
     ·exact⟨e,.inr hk0⟩
    ·exact⟨e,.inl hk0⟩
   have e3:Vis cenv.scope y:=e3
   rcases e3 with e3 | e3 | e3
   ·exact key _ e3 (.inl rfl)
   ·exact key _ e3 (.inr (.inl rfl))
   ·exact key _ e3 (.inr (.inr rfl))
  obtain⟨m,hn,hl⟩:=I.loc
  have hvis:Vis X.env.scope y:=(ok.free _ (PySem.mem_of_lookup hfr.1) rfl).elim (λk=>.inr (.inl k)) (λk=>.inr (.inr k))
  obtain⟨w,r,q⟩:=hl i y av e1 e2 hvis
  refine⟨w,r,.inr ⟨hfr.2,?_⟩⟩
  obtain⟨c,h1,h2⟩:=look hfr.1
  rcases q with ⟨k,_⟩ | ⟨_,c',e',z⟩
  ·have k:X.env.scope.names.lookup y=some .local:=k
   rcases ok.free _ (PySem.mem_of_lookup hfr.1) rfl with k' | k' <;> rw[show X.env.scope.names.lookup y=_ from k'] at k <;> cases k
  ·rw[h2] at e';cases e'
   exact⟨c,h1,z.keeps kp⟩
 ·have e:cenv.cells.lookup y=some c:=e
  rcases mem e with ⟨h1,_⟩ | ⟨_,z⟩
  ·obtain⟨w,z⟩:=I.cell y c h1
   exact⟨w,z.keeps kp⟩
  ·exact⟨_,z⟩
 ·show H cenv.locals=none
  rw[hL];exact I.hok.fresh (Nat.le_refl _)
 ·have e:cenv.cells.lookup y=some c:=e
  rcases mem e with ⟨h1,_⟩ | ⟨h1,_⟩
  ·exact I.freeC y c h1
  ·exact I.hok.fresh (Nat.le_of_succ_le h1)
 ·exact absurd (show p∈([]:List (Addr×Obj))++[] from hp) (by simp)
theorem zrk {E:Value→Shared→Prop} {D:Addr} {xs:List V} {y:V} {v:Value} {Q:Value→Shared→Prop} (I:Inv X pins σ H s) (hD:H D=some (.lst xs)) (hz:xs.length < sizeLine) (r:RelV y v)
  (h:∀s',Inv X pins σ (upd H D (.lst (xs++[y]))) s'→Q .none s'):wpAny (model X.prog X.w) X.A (call (.builtin "list.append") [.ref D,v]) Q E s:=by
 obtain⟨hz',its,n,ri,e⟩:=I.hok D _ hD
 have hl:=ri.length
 refine append_at (hsz:=by rw[List.size_toArray];omega) e λh' sb ho'=>?_
 refine h { s with heap:=h' } (I.write (t':=s.toks) (by rw[hD];trivial) (.inl rfl) (λb u hb q=>(sb.2 b hb).trans q) ⟨_,ho'⟩ ⟨by rw[List.length_append];exact hz,its++[v],n + 1,ri.append (.cons r .nil),?_⟩)
 rw[ho']
 simp
def PTs (X:Cx) (ifs:List Expr) (t:TT):Prop :=
 ∀(pins:List (Addr×Obj)) (s:Shared) (σ:St) (H:Hp) (Q:Bool→Hp→Prop),Inv X pins σ H s→t σ H Q →
  wpAny (model X.prog X.w) X.A (forIn ifs true λc r=>if r=true then do let ok ←isTrue c X.env (eval c X.env);pure (ForInStep.yield ok) else pure (ForInStep.yield r)) (TP X pins σ Q) X.xe s
def zpe:TT:=λ_ H Q=>Q true H
theorem zcV:PTs X [] zpe:=λ_ _ _ H _ I h=>wpAny_tests_nil ⟨H,I,h⟩
theorem zmW {c:Expr} {t:TT} (h:PT X c t):PTs X [c] t:=λpins s σ H Q I hw=>wpAny_tests_one (h pins s σ H Q I hw)
end
theorem zqy {α:Type} {t:Sem α} {Q Q':α→Shared→Prop} {M:Model} {A:Around} {E:Value→Shared→Prop} {s:Shared} (h:wpAny M A t Q (λ_ _=>False) s) (hQ:∀a s,Q a s→Q' a s):wpAny M A t Q' E s:=wpAny_mono h hQ λ_ _ z=>False.elim z
theorem zj7 {prog:Program} {w:World} {A:Around} {R:Result→Shared→Prop} {s:Shared} {elt target iter:Expr} {ifs:List Expr} {scope:Scope} {pos:Pos} {it acc:Value} {env:Env} (I:Nat→Shared→Prop)
  (turn:∀n s,I n s→wpAny (model prog w) A (pyNext it) (λr s₁=>match r with
   | none=>R (.ok .next) s₁
   | some v=>wpAny (model prog w) A (letOwnedTupleGo target it v) (λ_ s₁'=>wpAny (model prog w) A (assign target env v) (λ_ s₂ =>
     wpAny (model prog w) A (forIn ifs true λc r=>if r=true then do let ok ←isTrue c env (eval c env);pure (ForInStep.yield ok) else pure (ForInStep.yield r)) (λok s₃ =>
      if ok=true then wpAny (model prog w) A (eval elt env) (λx s₄ =>
       wpAny (model prog w) A (call (.builtin "list.append") [acc,x]) (λ_ s₅=>∃m,m < n∧I m s₅) (notedBy (model prog w) A env λe s'=>R (.error e) s') s₄) (notedBy (model prog w) A env λe s'=>R (.error e) s') s₃
      else ∃m,m < n∧I m s₃) (notedBy (model prog w) A env λe s'=>R (.error e) s') s₂) (notedBy (model prog w) A env λe s'=>R (.error e) s') s₁') (notedBy (model prog w) A env λe s'=>R (.error e) s') s₁) (notedBy (model prog w) A env λe s'=>R (.error e) s') s)
  (n:Nat) (h:I n s) :
  codeAny (model prog w) A (.compLoop (.ListComp elt [⟨target,iter,ifs,0⟩] scope pos) 0 it acc env) R s:=by
 refine codeAny_loop rfl I (λn s hI=>?_) n h
 show wpAny _ A ((compTurn (.ListComp elt [⟨target,iter,ifs,0⟩] scope pos) 0 it acc env).onRaise (λx=>do noteFrame x env;theTreesLotGoes x)) _ _ s
 refine wpAny_noted ?_
 rw[compTurn_list]
 refine wpAny_bind (wpAny_standAt (wpAny_bind (wpAny_mono (turn n s hI) (λr s₁ h₁=>?_) λ_ _ h'=>h')))
 cases r with
 | none=>exact wpAny_pure h₁
 | some v =>
  refine wpAny_bind (wpAny_mono h₁ (λ_ s₁' h₁'=>?_) λ_ _ h'=>h')
  refine wpAny_bind (wpAny_mono h₁' (λ_ s₂ h₂=>wpAny_bind (wpAny_mono h₂ (λok s₃ h₃=>?_) λ_ _ h'=>h')) λ_ _ h'=>h')
  cases ok with
  | false=>exact wpAny_pure ⟨rfl,h₃⟩
  | true =>
   exact wpAny_bind (wpAny_bind (wpAny_mono h₃ (λx s₄ h₄=>wpAny_bind (wpAny_mono h₄ (λ_ s₅ h₅=>wpAny_pure (wpAny_pure ⟨rfl,h₅⟩)) λ_ _ h'=>h')) λ_ _ h'=>h'))
section
variable {X : Cx}
def tLc (wi:TI) (g:TG) (tt:TT) (te:TE) (vs:List Nat):TE:=λσ H Q=>wi σ H λJ H1=>∀D,H1 D=none→∃W:Nat→Nat→Hp→Prop,(∃m,W 0 m (upd H1 D (.lst [])))∧∀i m H,W i m H →
  (J.stop i H∧Q (.ref D) H)∨(J.go i H∧∃Nx:Hp→Prop,(∀H',Nx H'→∃m',m' < m∧W (i + 1) m' H')∧∀x H',J.yld i H x H'→g x (zcU σ vs) H' λσ2 H2=>zcU σ2 vs=zcU σ vs∧tt σ2 H2 λb H3 =>
    if b=true then te σ2 H3 λy H4=>∃acc,H4 D=some (.lst acc)∧acc.length < sizeLine∧Nx (upd H4 D (.lst (acc++[y]))) else Nx H3)
theorem znt {pins:List (Addr×Obj)} {s:Shared} {σ:St} {H:Hp} {Q:VK} {elt tg iter:Expr} {ifs:List Expr} {scope:Scope} {own:List (Str×Nat)} {pos pos':Pos} {wi:TI} {g:TG} {tt:TT} {te:TE} {use:Option (Value→Sem Unit)} {Qf:Value→Shared→Prop}
  (hc:X.calm=true) (hN:X.N.Nodup) (I:Inv X pins σ H s) (hi:PI X tg iter wi) (ok:BlkOk X.N X.env.scope scope own)
  (hg:∀(s:Shared) (H:Hp) (C:Addr) (cl:List (Str×Addr)) (fp:List Addr),PG (X.blk s H scope (compEnvC scope cl C X.env) fp) tg g) (ht:∀(s:Shared) (H:Hp) (C:Addr) (cl:List (Str×Addr)) (fp:List Addr),PTs (X.blk s H scope (compEnvC scope cl C X.env) fp) ifs tt)
  (he:∀(s:Shared) (H:Hp) (C:Addr) (cl:List (Str×Addr)) (fp:List Addr),PE (X.blk s H scope (compEnvC scope cl C X.env) fp) elt te) (hs:∀x,foldedSetIterable iter X.env x=pure x)
  (h:tLc wi g tt te (own.map (·.2)) σ H Q)
  (hRR:∀D C s' m H',Inv X pins σ H' s'→Q (.ref D) H'→s'.heap.Ns C m→zh1 X pins H' C→compPost (model X.prog X.w) X.A X.xe use Qf (.ref D) C (.ok .next) s') :
  wpAny (model X.prog X.w) X.A (comprehension (.ListComp elt [⟨tg,iter,ifs,0⟩] scope pos) scope X.env pos' (newList []) false (eval iter X.env) use) Qf X.xe s:=by
 have hfree:∀y∈scope.names,y.2=.free→∃c,X.env.cells.lookup y.1=some c:=λy hy e=>by
  rcases ok.free y hy e with k | k
  ·exact I.ok.has _ (.inl k)
  ·exact I.ok.has _ (.inr k)
 refine wpAny_comprehension_free (use:=use) rfl hs (zmg hfree) ok.kind (λy hy e=>by rw[ok.uniq y hy,e])
  (thn (hi pins s σ H _ I h) λxv s1 hx=>thn hx λitv s2 h2=>?_)
 obtain⟨it,fp,tn,J,H2,e,I2,T,st2,f2,q⟩:=h2
 subst e
 refine wpAny_newObj_type (zkI ?_) (by show 0≤sizeLine;decide)
 generalize hD:s2.heap.objs.size=D
 have hDn:H2 D=none:=I2.hok.fresh (Nat.le_of_eq hD)
 obtain⟨W,⟨m0,w0⟩,turn⟩:=q D hDn
 generalize hs3:({ s2 with heap:=s2.heap.push { cls:=.type "list",data:=.seq ([]:List Value).toArray } }:Shared)=s3
 have I3:Inv X pins σ (upd H2 D (.lst [])) s3:=by
  rw[←hs3]
  refine I2.laid (t':=s2.toks) (λb o e=>Heap.get?_push_of_some _ e) (Nat.le_of_eq hD) ⟨Nat.zero_le _,[],0,.nil,?_⟩
  rw[←hD]
  exact Heap.get?_push_size _ rfl
 have h3:s3.heap=s2.heap.push { cls:=.type "list",data:=.seq ([]:List Value).toArray }:=by rw[←hs3]
 have sz:∀b∈fp,b < s2.heap.objs.size:=λb hb=>by
  obtain⟨o,e,_⟩:=T.obj _ _ st2 b hb
  exact Heap.lt_size e
 have f3:∀b∈fp,zh1 X pins (upd H2 D (.lst [])) b∧b < s3.heap.objs.size:=λb hb=>by
  have hlt:=sz b hb
  refine⟨⟨?_,(f2 b hb).2⟩,by rw[h3,Heap.size_push];exact Nat.lt_succ_of_lt hlt⟩
  rw[zbL (by rw[←hD];exact Nat.ne_of_lt hlt)]
  exact (f2 b hb).1
 have st3:tn 0 s3.heap:=T.keep _ _ _ st2 λb _ o e=>by rw[h3];exact Heap.get?_push_of_some _ e
 have I4:=zkQ I3 ok hN f3
 have pg:=hg s3 (upd H2 D (.lst [])) s3.heap.objs.size (cellsFrom (s3.heap.objs.size + 1) scope.names (zcq X.env.cells scope.names [])) fp
 have pt:=ht s3 (upd H2 D (.lst [])) s3.heap.objs.size (cellsFrom (s3.heap.objs.size + 1) scope.names (zcq X.env.cells scope.names [])) fp
 have pe:=he s3 (upd H2 D (.lst [])) s3.heap.objs.size (cellsFrom (s3.heap.objs.size + 1) scope.names (zcq X.env.cells scope.names [])) fp
 show codeAny _ _ (.compStart (.ListComp elt [⟨tg,iter,ifs,0⟩] scope pos) 0 (.ref it) (.ref D) (compEnvC scope (cellsFrom (s3.heap.objs.size + 1) scope.names (zcq X.env.cells scope.names [])) s3.heap.objs.size X.env)) (compPost (model X.prog X.w) X.A X.xe use Qf (.ref D) s3.heap.objs.size) { s3 with heap:=pushCells (s3.heap.push { cls:=.type "dict",data:=.dict #[] }) scope.names }
 have nfp:∀b∈fp,(upd H2 D (.lst [])) b=none:=λb hb=>(f3 b hb).1.1
 generalize hce:compEnvC scope (cellsFrom (s3.heap.objs.size + 1) scope.names (zcq X.env.cells scope.names [])) s3.heap.objs.size X.env=ce at I4 pg pt pe ⊢
 have cL:ce.locals=s3.heap.objs.size:=by subst hce;rfl
 generalize hH3:upd H2 D (.lst [])=H3 at I3 I4 pg pt pe w0 nfp f3
 generalize hs4:({ s3 with heap:=pushCells (s3.heap.push { cls:=.type "dict",data:=.dict #[] }) scope.names }:Shared)=s4 at I4 ⊢
 have st4:tn 0 s4.heap:=T.keep _ _ _ st3 λb _ o e=>by rw[←hs4];exact pushCells_keeps _ _ _ _ (Heap.get?_push_of_some _ e)
 have stat:∀{σ':St} {H':Hp} {s':Shared},Inv (X.blk s3 H3 scope ce fp) [] σ' H' s'→(∀b∈fp,H' b=none)→∀b∈fp,zh1 (X.blk s3 H3 scope ce fp) [] H' b:=λ{σ' H' s'} I' hn b hb =>
  ⟨hn b hb,(I'.ok.exf b hb).1,I'.ok.exfs b hb,.inl hb,λx c e=>(I'.ok.exf b hb).2 x c e,λp hp=>absurd (show p∈([]:List (Addr×Obj))++[] from hp) (by simp)⟩
 have loop:codeAny (model X.prog X.w) X.A (.compLoop (.ListComp elt [⟨tg,iter,ifs,0⟩] scope pos) 0 (.ref it) (.ref D) ce) (compPost (model X.prog X.w) X.A X.xe use Qf (.ref D) s3.heap.objs.size) s4:=by
  refine zj7 (λn s'=>∃i H',Inv (X.blk s3 H3 scope ce fp) [] (zcU σ (own.map (·.2))) H' s'∧tn i s'.heap∧(∀b∈fp,H' b=none)∧W i n H') ?_ m0 ⟨0,H3,I4,st4,nfp,w0⟩
  rintro n s5 ⟨i,H5,I5,st5,n5,w5⟩
  rcases turn i n H5 w5 with ⟨stop,qq⟩ | ⟨go,Nx,hNx,step⟩
  ·have td:=T.done (X.blk s3 H3 scope ce fp) rfl rfl rfl hc i [] s5 _ H5 (λ_ _=>False) I5 (stat I5 n5) st5 stop
   refine zqy td λr s6 ⟨hr,I6⟩=>?_
   subst hr
   have I7:Inv X pins σ H5 s6:=I3.call' (ch:=fp) I6.os I6.base I6.hok I6.bare λb hb=>⟨(f3 b hb).1.2.2.2.1,(f3 b hb).1.2.1,(f3 b hb).1.2.2.2.2.1,(f3 b hb).1.2.2.2.2.2⟩
   have nC:H5 s3.heap.objs.size=none:=by
    have z:H5 ce.locals=none:=I6.free
    rw[cL] at z
    exact z
   obtain⟨m,hn,_⟩:=I6.loc
   have hn:s6.heap.Ns ce.locals m:=hn
   rw[cL] at hn
   exact hRR D s3.heap.objs.size s6 m H5 I7 qq hn (I3.fpOk (Nat.le_refl _) nC)
  ·have ti:=T.item (X.blk s3 H3 scope ce fp) rfl rfl rfl hc i [] s5 _ H5 (λ_ _=>False) I5 (stat I5 n5) st5 go
   refine zqy ti λr s6 ⟨u,hr,h6⟩=>?_
   subst hr
   refine zqy h6 λ_ s7 ⟨x,H7,I7,r7,y7,st7,n7⟩=>?_
   have I7':=I7.pinned (stat I7 n7) (T.obj _ _ st7)
   refine zqy (pg _ s7 _ H7 x u _ I7' r7 (step x H7 y7)) λ_ s8 ⟨σ8,H8,I8,hw8,q8⟩=>?_
   refine zqy (pt _ s8 σ8 H8 _ I8 q8) λb s9 ⟨H9,I9,q9⟩=>?_
   have fin:∀{s':Shared} {H':Hp},Inv (X.blk s3 H3 scope ce fp) ([]++zjD fp s7.heap) σ8 H' s'→Nx H'→∃m,m < n∧∃i H',Inv (X.blk s3 H3 scope ce fp) [] (zcU σ (own.map (·.2))) H' s'∧tn i s'.heap∧(∀b∈fp,H' b=none)∧W i m H':=λ{s' H'} I' nx=>by
    obtain⟨m',hm,w'⟩:=hNx H' nx
    have pin':∀b∈fp,∀o,s7.heap.get? b=some o→s'.heap.get? b=some o∧H' b=none:=λb hb o e =>
     let z:=I'.pin (b,o) (List.mem_append_right _ (List.mem_append_right _ (zf9 hb e)))
     ⟨z.1,z.2.1⟩
    have hl:(zcU σ (own.map (·.2))).length=σ8.length:=by rw[←hw8,ze6]
    refine⟨m',hm,i + 1,H',(I'.unpinned (pins:=[])).weak hl (λj v e=>?_),T.keep _ _ _ st7 λb hb o e=>(pin' b hb o e).1,λb hb=>?_,w'⟩
    ·rw[←hw8] at e
     exact (zgR e).1
    ·obtain⟨o,e,_⟩:=T.obj _ _ st7 b hb
     exact (pin' b hb o e).2
   cases b with
   | false =>
    simp only [Bool.false_eq_true,if_false] at q9 ⊢
    exact fin I9 q9
   | true =>
    simp only [if_true] at q9 ⊢
    refine zqy (pe _ s9 σ8 H9 _ I9 q9) λz s10 ⟨yv,H10,I10,r10,acc,hD10,hz10,nx⟩=>?_
    exact zrk (X:=X.blk s3 H3 scope ce fp) I10 hD10 hz10 r10 λs11 I11=>fin I11 nx
 exact codeAny_compStart_list loop (T.self X.A 0 _ _ _ st4 loop)
theorem zfF {elt tg iter:Expr} {ifs:List Expr} {scope:Scope} {own:List (Str×Nat)} {pos:Pos} {wi:TI} {g:TG} {tt:TT} {te:TE} (hc:X.calm=true) (hN:X.N.Nodup) (hi:PI X tg iter wi) (ok:BlkOk X.N X.env.scope scope own)
  (hg:∀(s:Shared) (H:Hp) (C:Addr) (cl:List (Str×Addr)) (fp:List Addr),PG (X.blk s H scope (compEnvC scope cl C X.env) fp) tg g) (ht:∀(s:Shared) (H:Hp) (C:Addr) (cl:List (Str×Addr)) (fp:List Addr),PTs (X.blk s H scope (compEnvC scope cl C X.env) fp) ifs tt)
  (he:∀(s:Shared) (H:Hp) (C:Addr) (cl:List (Str×Addr)) (fp:List Addr),PE (X.blk s H scope (compEnvC scope cl C X.env) fp) elt te) (hs:∀x,foldedSetIterable iter X.env x=pure x:=by intro _;rfl) :
  PE X (.ListComp elt [⟨tg,iter,ifs,0⟩] scope pos) (tLc wi g tt te (own.map (·.2))):=by
 intro pins s σ H Q I h
 rw[eval_ListComp]
 refine znt hc hN I hi ok hg ht he hs h λD C s' m H' I' q hn f=>⟨m,hn,λh'' sb=>?_⟩
 obtain⟨f0,f1,f2,f3,f4,f5⟩:=f
 exact⟨.ref D,H',I'.turned (t':=s'.toks) (λb o hb e=>(sb.2 b hb).trans e) f0 f1 f3 f4 f5,rfl,q⟩
theorem zld {i:Nat} {y:Str} {py:Pos} {elt tg iter:Expr} {ifs:List Expr} {scope:Scope} {own:List (Str×Nat)} {pos spos:Pos} {wi:TI} {g:TG} {tt:TT} {te:TE} (hc:X.calm=true) (hN:X.N.Nodup) (hy:X.N[i]? = some y) (hyl:X.env.scope.names.lookup y=some .local)
  (hsw:swapsWith (.ListComp elt [⟨tg,iter,ifs,0⟩] scope pos) (some (.Name y py)) spos.line X.env=pure true) (hi:PI X tg iter wi) (ok:BlkOk X.N X.env.scope scope own)
  (hg:∀(s:Shared) (H:Hp) (C:Addr) (cl:List (Str×Addr)) (fp:List Addr),PG (X.blk s H scope (compEnvC scope cl C X.env) fp) tg g) (ht:∀(s:Shared) (H:Hp) (C:Addr) (cl:List (Str×Addr)) (fp:List Addr),PTs (X.blk s H scope (compEnvC scope cl C X.env) fp) ifs tt)
  (he:∀(s:Shared) (H:Hp) (C:Addr) (cl:List (Str×Addr)) (fp:List Addr),PE (X.blk s H scope (compEnvC scope cl C X.env) fp) elt te) (hs:∀x,foldedSetIterable iter X.env x=pure x:=by intro _;rfl) :
  PS X (.Assign [.Name y py] (.ListComp elt [⟨tg,iter,ifs,0⟩] scope pos) spos) (zrS (tLc wi g tt te (own.map (·.2))) (zeM i)):=by
 intro pins s σ H D I h
 rw[exec_Assign_Name_used _ _ _ _ hsw]
 refine wpAny_bind (wpAny_standAt (wpAny_bind ?_))
 show wpAny _ X.A (do let _ ←comprehension (.ListComp elt [⟨tg,iter,ifs,0⟩] scope pos) scope X.env (firstIterPos [⟨tg,iter,ifs,0⟩] pos) (newList []) false (eval iter X.env) (some (assign (.Name y py) X.env))) _ _ s
 have h:tLc wi g tt te (own.map (·.2)) σ H (λx H1=>zeM i x σ H1 D.nx):=h
 refine wpAny_bind (thn (znt (Qf:=λ_ s'=>SP X pins D .next s') hc hN I hi ok hg ht he hs h λL C s' m H' I' q hn f=>?_) λ_ s' hq=>wpAny_pure (wpAny_pure hq))
 show wpAny _ _ (assign (.Name y py) X.env (.ref L)) _ _ _
 refine wpAny_assign_Name (zjr (v:=V.ref L) I' hN hy (.inl hyl) rfl (λs2 I2 ⟨a,sb,ha⟩=>?_) (.inr hyl))
 obtain⟨f0,f1,f2,f3,f4,f5⟩:=f
 have haC:C≠a:=by
  rcases ha with z | z
  ·rw[z];exact f1
  ·exact λe=>f4 y a z e.symm
 refine⟨m,hn.sameBut sb haC,λh3 sb3=>?_⟩
 exact⟨_,H',I2.turned (t':=s2.toks) (λb o hb e=>(sb3.2 b hb).trans e) f0 f1 f3 f4 f5,q⟩
theorem zmz {elt:Expr} {gs:List Comprehension} {scope:Scope} {pos py:Pos} {y:Str} {l:Nat} {env:Env} (hk:env.scope.kind=.function) (hy:env.scope.names.lookup y=some .local) (hl:(py.line == pos.line)=true)
  (ha:(scope.names.any λ(n,k)=>n == y && (k == .local || k == .cell))=false):swapsWith (.ListComp elt gs scope pos) (some (.Name y py)) l env=pure true:=by
 have ky:env.kindOf y=some .local:=hy
 have hb:env.blockKind=.function:=by unfold Env.blockKind;rw[hk];rfl
 unfold swapsWith
 simp only [hb,ky,ha,Expr.pos,hl]
 rfl
end
theorem zoU {lo:Int} {n:Nat} {g:TG} {tt:TT} {te:TE} {vs:List Nat} {σ:St} {H1:Hp} {D:Addr} {Qd:Hp→Prop} (Pv:Nat→Hp→Prop) (h0:Pv 0 (upd H1 D (.lst [])))
    (hs:∀i H,i < n→Pv i H→g (.int (lo + i)) (zcU σ vs) H λσ2 H2=>zcU σ2 vs=zcU σ vs∧tt σ2 H2 λb H3 =>
      if b=true then te σ2 H3 λy H4=>∃acc,H4 D=some (.lst acc)∧acc.length < sizeLine∧Pv (i + 1) (upd H4 D (.lst (acc++[y]))) else Pv (i + 1) H3) (hd:∀H,Pv n H→Qd H) :
    ∃W:Nat→Nat→Hp→Prop,(∃m,W 0 m (upd H1 D (.lst [])))∧∀i m H,W i m H →
      ((Itr lo n).stop i H∧Qd H)∨((Itr lo n).go i H∧∃Nx:Hp→Prop,(∀H',Nx H'→∃m',m' < m∧W (i + 1) m' H')∧∀x H',(Itr lo n).yld i H x H'→g x (zcU σ vs) H' λσ2 H2=>zcU σ2 vs=zcU σ vs∧tt σ2 H2 λb H3 =>
        if b=true then te σ2 H3 λy H4=>∃acc,H4 D=some (.lst acc)∧acc.length < sizeLine∧Nx (upd H4 D (.lst (acc++[y]))) else Nx H3):=by
  refine⟨λi m H=>m=n - i∧i≤n∧Pv i H,⟨n,by simp,Nat.zero_le _,h0⟩,?_⟩
  rintro i m H ⟨rfl,hi,p⟩
  by_cases hlt:i < n
  · refine .inr ⟨hlt,Pv (i + 1),λH' p'=>⟨n - (i + 1),by omega,rfl,hlt,p'⟩,λx H' y=>?_⟩
    obtain⟨e,y⟩:=y
    subst e y
    exact hs i _ hlt p
  · have e:i=n:=by omega
    subst e
    exact .inl ⟨Nat.le_refl _,hd H p⟩
theorem zns {K:PySem.W.Frag} {a:Addr} {xs:List V} {g:TG} {tt:TT} {te:TE} {vs:List Nat} {σ:St} {H1:Hp} {D:Addr} {Qd:Hp→Prop} (Pv:Nat→Hp→Prop) (h0:Pv 0 (upd H1 D (.lst []))) (hl:∀i H,i≤xs.length→Pv i H→SqL K H a xs)
    (hs:∀i x H,xs[i]? = some x→Pv i H→g x (zcU σ vs) H λσ2 H2=>zcU σ2 vs=zcU σ vs∧tt σ2 H2 λb H3 =>
      if b=true then te σ2 H3 λy H4=>∃acc,H4 D=some (.lst acc)∧acc.length < sizeLine∧Pv (i + 1) (upd H4 D (.lst (acc++[y]))) else Pv (i + 1) H3) (hd:∀H,Pv xs.length H→Qd H) :
    ∃W:Nat→Nat→Hp→Prop,(∃m,W 0 m (upd H1 D (.lst [])))∧∀i m H,W i m H →
      ((Itl K a).stop i H∧Qd H)∨((Itl K a).go i H∧∃Nx:Hp→Prop,(∀H',Nx H'→∃m',m' < m∧W (i + 1) m' H')∧∀x H',(Itl K a).yld i H x H'→g x (zcU σ vs) H' λσ2 H2=>zcU σ2 vs=zcU σ vs∧tt σ2 H2 λb H3 =>
        if b=true then te σ2 H3 λy H4=>∃acc,H4 D=some (.lst acc)∧acc.length < sizeLine∧Nx (upd H4 D (.lst (acc++[y]))) else Nx H3):=by
  refine⟨λi m H=>m=xs.length - i∧i≤xs.length∧Pv i H,⟨xs.length,by simp,Nat.zero_le _,h0⟩,?_⟩
  rintro i m H ⟨rfl,hi,p⟩
  have q:=hl i H hi p
  by_cases hlt:i < xs.length
  · refine .inr ⟨⟨xs,xs[i],q,by simp [hlt]⟩,Pv (i + 1),λH' p'=>⟨xs.length - (i + 1),by omega,rfl,hlt,p'⟩,λx H' y=>?_⟩
    obtain⟨e,y⟩:=y
    subst e
    exact hs i x _ (y xs q) p
  · have e:i=xs.length:=by omega
    subst e
    exact .inl ⟨⟨xs,q,Nat.le_refl _⟩,hd H p⟩
def blkC (N:List Str) (sc scope:Scope) (own:List (Str×Nat)):Bool :=
  (match scope.kind with | .function=>true | _=>false) && (scope.names.all λy=>decide (scope.names.lookup y.1=some y.2)) && (own.all λp=>decide (N[p.2]? = some p.1)) &&
    (scope.names.all λy=>match y.2 with
      | .free=>(match sc.names.lookup y.1 with | some .cell=>true | some .free=>true | _=>false)
      | .local=>decide (y.1∈own.map (·.1)) || decide (y.1 ∉ N)
      | .cell=>decide (y.1∈own.map (·.1)) || decide (y.1 ∉ N)
      | _=>true)
theorem zcr {N:List Str} {sc scope:Scope} {own:List (Str×Nat)} (h:blkC N sc scope own=true):BlkOk N sc scope own:=by
 unfold blkC at h
 simp only [Bool.and_eq_true,List.all_eq_true,decide_eq_true_eq] at h
 obtain⟨⟨⟨h1,h2⟩,h3⟩,h4⟩:=h
 refine⟨?_,h2,h3,λy hy e=>?_,λy hy e=>?_⟩
 ·split at h1
  ·assumption
  ·cases h1
 ·have q:=h4 y hy
  simp only [e] at q
  split at q <;> first | exact .inl (by assumption) | exact .inr (by assumption) | cases q
 ·have q:=h4 y hy
  rcases e with e | e <;> (simp only [e,Bool.or_eq_true,decide_eq_true_eq] at q;exact q)
end L2
namespace L2
open PySem PySem.Spec PyProof.Rows
section
variable {prog : Program} {w : World} {A : Around} {R : Result → Shared → Prop} {s : Shared} {elt t0 i0 t1 i1 : Expr} {ifs0 ifs1 : List Expr} {scope : Scope} {pos : Pos} {it acc : Value} {env : Env}
end
section
variable {X : Cx}
end
end L2
namespace L2
open PySem PySem.Spec PyProof.Rows
section
variable {κ : Type} [DecidableEq κ]
def zhJ (kvs:List (κ×V)) (k:κ):Option V:=(kvs.find? λkv=>decide (kv.1=k)).map (·.2)
def zlV (kvs:List (κ×V)) (k:κ) (v:V):List (κ×V) :=
 if (kvs.any λkv=>decide (kv.1=k))=true then kvs.map (λkv=>if kv.1=k then (kv.1,v) else kv) else kvs++[(k,v)]
theorem zfx {p:κ×V} {r:List (κ×V)} {k:κ} (e:p.1=k):zhJ (p::r) k=some p.2:=by simp [zhJ,List.find?_cons,e]
theorem zdU {p:κ×V} {r:List (κ×V)} {k:κ} (e:¬p.1=k):zhJ (p::r) k=zhJ r k:=by simp [zhJ,List.find?_cons,e]
theorem ziy (k:κ):∀kvs:List (κ×V),(kvs.any λkv=>decide (kv.1=k))=(zhJ kvs k).isSome
 | []=>rfl
 | p::r=>by
  rw[List.any_cons]
  by_cases e:p.1=k
  ·simp only [zfx e,decide_eq_true e,Bool.true_or,Option.isSome_some]
  ·rw[zdU e,decide_eq_false e,Bool.false_or];exact ziy k r
theorem zhm (kvs:List (κ×V)) (k:κ) (v:V):(zlV kvs k v).length≤kvs.length + 1:=by
 unfold zlV
 split
 ·rw[List.length_map];omega
 ·rw[List.length_append,List.length_cons,List.length_nil];omega
theorem zlb {kvs:List (κ×V)} {k:κ} (v:V) (h:zhJ kvs k=none):zlV kvs k v=kvs++[(k,v)]:=by
 unfold zlV
 rw[ziy,h]
 exact if_neg (by decide)
theorem RelO.isSome_eq {o:Option V} {u:Option Value} (r:RelO o u):o.isSome=u.isSome:=by
 cases o with
 | none=>cases u with
  | none=>rfl
  | some _=>exact (show False from r).elim
 | some _=>cases u with
  | none=>exact (show False from r).elim
  | some _=>rfl
theorem RelO.getD {o:Option V} {u:Option Value} {d:V} {d':Value} (r:RelO o u) (rd:RelV d d'):RelV (o.getD d) (u.getD d'):=by
 cases o with
 | none=>cases u with
  | none=>exact rd
  | some _=>exact (show False from r).elim
 | some _=>cases u with
  | none=>exact (show False from r).elim
  | some _=>exact r
theorem KV.val {kvs:List (κ×V)} {vs:List (κ×Value)} (r:KV kvs vs) (k:κ):RelO (zhJ kvs k) (valueAt vs k):=by
 unfold KV at r
 induction r with
 | nil=>exact True.intro
 | @cons p q ps qs h t ih =>
  obtain⟨h1,h2⟩:=h
  by_cases e:p.1=k
  ·have e':q.1=k:=h1.symm.trans e
   have b:valueAt (q::qs) k=some q.2:=by simp [valueAt,List.find?_cons,e']
   rw[zfx e,b];exact h2
  ·have e':¬q.1=k:=λz=>e (h1.trans z)
   have b:valueAt (q::qs) k=valueAt qs k:=by simp [valueAt,List.find?_cons,e']
   rw[zdU e,b];exact ih
theorem KV.any {kvs:List (κ×V)} {vs:List (κ×Value)} (r:KV kvs vs) (k:κ):(kvs.any λkv=>decide (kv.1=k))=vs.any λkv=>decide (kv.1=k):=by
 unfold KV at r
 induction r with
 | nil=>rfl
 | cons h t ih=>rw[List.any_cons,List.any_cons,ih,h.1]
theorem KV.repl {kvs:List (κ×V)} {vs:List (κ×Value)} (r:KV kvs vs) (k:κ) {y:V} {u:Value} (ry:RelV y u) :
  KV (kvs.map λkv=>if kv.1=k then (kv.1,y) else kv) (vs.map λkv=>if kv.1=k then (kv.1,u) else kv):=by
 unfold KV at r ⊢
 induction r with
 | nil=>exact .nil
 | @cons p q ps qs h t ih =>
  rw[List.map_cons,List.map_cons]
  refine .cons ?_ ih
  obtain⟨h1,h2⟩:=h
  by_cases e:p.1=k
  ·rw[if_pos e,if_pos (h1.symm.trans e)];exact⟨h1,ry⟩
  ·rw[if_neg e,if_neg (λz=>e (h1.trans z))];exact⟨h1,h2⟩
theorem KV.put {kvs:List (κ×V)} {vs:List (κ×Value)} (r:KV kvs vs) (k:κ) {y:V} {u:Value} (ry:RelV y u):KV (zlV kvs k y) (stored vs k u):=by
 unfold zlV stored
 rw[r.any k]
 by_cases e:(vs.any λkv=>decide (kv.1=k))=true
 ·rw[if_pos e,if_pos e];exact r.repl k ry
 ·rw[if_neg e,if_neg e];exact Paired.snoc r ⟨rfl,ry⟩
theorem KV.length {kvs:List (κ×V)} {vs:List (κ×Value)} (r:KV kvs vs):kvs.length=vs.length:=Paired.length r
end
theorem znv {P:Program} {w:World} {k:Key} {u:Value} (r:RelV (kV k) u):(zcw P w).is k u=true:=by
 cases k with
 | inl i=>obtain⟨t,e⟩:=(show ∃t,u=Value.int i t from r);subst e;exact zkK P w i t
 | inr x=>obtain⟨t,e⟩:=(show ∃t,u=Value.str x t from r);subst e;exact zkJ P w x t
theorem zjZ {P:Program} {w:World}:∀{ks:List Key} {us:List Value},Vals (ks.map kV) us→ItemsAre (zcw P w) ks us
 | [],_,r=>by rw[List.map_nil] at r;cases r;exact .nil
 | k::ks,_,r=>by
  rw[List.map_cons] at r
  cases r with
  | cons h t=>exact .cons (znv h) (zjZ t)
abbrev KT (H:Hp):List (List Key×V)→List (List Key×Addr×Value)→Prop:=Paired λp q=>p.1=q.1∧H q.2.1=some (.tup (p.1.map kV))∧RelV p.2 q.2.2
theorem KT.val {H:Hp} {kvs:List (List Key×V)} {xs:List (List Key×Addr×Value)} (r:KT H kvs xs) (k:List Key):RelO (zhJ kvs k) ((atKey xs k).map (·.2)):=by
 induction r with
 | nil=>exact True.intro
 | @cons p q ps qs h t ih =>
  obtain⟨h1,_,h2⟩:=h
  by_cases e:p.1=k
  ·have e':q.1=k:=h1.symm.trans e
   have b:atKey (q::qs) k=some q.2:=by simp [atKey,List.find?_cons,e']
   rw[zfx e,b];exact h2
  ·have e':¬q.1=k:=λz=>e (h1.trans z)
   have b:atKey (q::qs) k=atKey qs k:=by simp [atKey,List.find?_cons,e']
   rw[zdU e,b];exact ih
theorem KT.repl {H:Hp} {kvs:List (List Key×V)} {xs:List (List Key×Addr×Value)} (r:KT H kvs xs) (k:List Key) {y:V} {u:Value} (ry:RelV y u) :
  KT H (kvs.map λkv=>if kv.1=k then (kv.1,y) else kv) (xs.map (putAt k u)):=by
 induction r with
 | nil=>exact .nil
 | @cons p q ps qs h t ih =>
  rw[List.map_cons,List.map_cons]
  refine .cons ?_ ih
  obtain⟨h1,h2,h3⟩:=h
  unfold putAt
  by_cases e:p.1=k
  ·rw[if_pos e,if_pos (h1.symm.trans e)];exact⟨h1,h2,ry⟩
  ·rw[if_neg e,if_neg (λz=>e (h1.trans z))];exact⟨h1,h2,h3⟩
theorem KT.put {H:Hp} {kvs:List (List Key×V)} {xs:List (List Key×Addr×Value)} (r:KT H kvs xs) (k:List Key) {b:Addr} {y:V} {u:Value} (hb:H b=some (.tup (k.map kV))) (ry:RelV y u) :
  KT H (zlV kvs k y) (storedH xs k b u):=by
 have e:(kvs.any λkv=>decide (kv.1=k))=(atKey xs k).isSome:=by
  rw[ziy,(r.val k).isSome_eq,Option.isSome_map]
 unfold zlV storedH
 rw[e]
 by_cases q:(atKey xs k).isSome=true
 ·rw[if_pos q,if_pos q];exact r.repl k ry
 ·rw[if_neg q,if_neg q];exact Paired.snoc r ⟨rfl,hb,ry⟩
theorem KT.keeps {H H':Hp} {kvs:List (List Key×V)} {xs:List (List Key×Addr×Value)} (r:KT H kvs xs) (ht:∀b ys,H b=some (.tup ys)→H' b=some (.tup ys)):KT H' kvs xs :=
 Paired.mapP r λ_ _ z=>⟨z.1,ht _ _ z.2.1,z.2.2⟩
section
variable {P : Program} {w : World} {H : Hp} {h : Heap} {a : Addr}
theorem zqU {u:HO} (ok:HOk P w H h) (e:Rd H a u):ObjOk P w H h a u:=e.ok ok
theorem zqh {kvs:List (Key×V)} (ok:HOk P w H h) (e:Rd H a (.dK kvs)):kvs.length≤sizeLine∧(a == sysModules)=false∧∃vs,KV kvs vs∧h.DictOf (zcw P w) a vs :=
 show ObjOk P w H h a (.dK kvs) from zqU ok e
theorem zr7 {kvs:List (Key×V)} (ok:HOk P w H h) (e:H a=some (.dK kvs)):kvs.length≤sizeLine∧(a == sysModules)=false∧∃vs,KV kvs vs∧h.DictOf (zcw P w) a vs:=zqh ok (.inl e)
theorem znu {ks:List Key} (ok:HOk P w H h) (e:H a=some (.tup (ks.map kV))):(tupleKind (zcw P w)).is h ks a:=by
 obtain⟨_,its,r,o,h1,h2,n,h3⟩:=(show ObjOk P w H h a (.tup (ks.map kV)) from ok a _ e)
 exact⟨o,its.toArray,n,h1,h2,h3,by simpa using zjZ r⟩
theorem zqg {kvs:List (List Key×V)} (ok:HOk P w H h) (e:Rd H a (.dT kvs)):kvs.length≤sizeLine∧(a == sysModules)=false ∧
  ∃xs,KT H kvs xs∧h.DictOfH (tupleKind (zcw P w)) a xs:=by
 obtain⟨z,y,xs,r,o,es,ep,h1,h2,h3,h4,h5⟩:=(show ObjOk P w H h a (.dT kvs) from zqU ok e)
 refine⟨z,y,xs,r,o,es,ep,h1,h2,h3,h4,λx hx=>?_,h5⟩
 have all:∀{l:List (List Key×V)} {m:List (List Key×Addr×Value)},KT H l m→∀x∈m,(tupleKind (zcw P w)).is h x.1 x.2.1:=by
  intro l m q
  induction q with
  | nil=>intro x hx;exact nomatch hx
  | @cons p q ps qs hq t ih =>
   intro x hx
   rcases List.mem_cons.mp hx with e | hx
   ·subst e
    exact znu ok (by rw[←hq.1];exact hq.2.1)
   ·exact ih x hx
 exact all r x hx
theorem zr6 {kvs:List (List Key×V)} (ok:HOk P w H h) (e:H a=some (.dT kvs)):kvs.length≤sizeLine∧(a == sysModules)=false ∧
  ∃xs,KT H kvs xs∧h.DictOfH (tupleKind (zcw P w)) a xs:=zqg ok (.inl e)
end
def DGet (H:Hp) (a:Addr) (y:V) (r:Option V):Prop :=
 (∃kvs k,Rd H a (.dK kvs)∧y=kV k∧r=zhJ kvs k)∨∃kvs k b,Rd H a (.dT kvs)∧y=.ref b∧H b=some (.tup (k.map kV))∧r=zhJ kvs k
def DPut (H:Hp) (a:Addr) (y v:V) (H':Hp):Prop :=
 (∃kvs k,H a=some (.dK kvs)∧y=kV k∧kvs.length < sizeLine∧H'=upd H a (.dK (zlV kvs k v))) ∨
 ∃kvs k b,H a=some (.dT kvs)∧y=.ref b∧H b=some (.tup (k.map kV))∧kvs.length < sizeLine∧H'=upd H a (.dT (zlV kvs k v))
theorem DGet.k {H:Hp} {a:Addr} {kvs:List (Key×V)} {k:Key} (e:H a=some (.dK kvs)):DGet H a (kV k) (zhJ kvs k):=.inl ⟨kvs,k,.inl e,rfl,rfl⟩
theorem DPut.k {H:Hp} {a:Addr} {kvs:List (Key×V)} {k:Key} {v:V} (e:H a=some (.dK kvs)) (hl:kvs.length < sizeLine):DPut H a (kV k) v (upd H a (.dK (zlV kvs k v))):=.inl ⟨kvs,k,e,rfl,hl,rfl⟩
section
variable {X : Cx} {pins : List (Addr × Obj)} {σ : St} {H : Hp} {s : Shared} {a : Addr} {y v : V} {u r : Value} {o : Option V} {A : Around} {E : Value → Shared → Prop}
theorem Inv.big (I:Inv X pins σ H s):sysModules < s.heap.objs.size:=by
 have h:mainGlobals < s.heap.objs.size:=(I.mod.glob.keeps I.bk).lt
 exact Nat.lt_trans (by decide) h
theorem znS {Q:Value→Shared→Prop} (hu:A.units + 1 < cLine) (I:Inv X pins σ H s) (g:DGet H a y (some v)) (ry:RelV y u) (h:∀w' s',Inv X pins σ H s'→RelV v w'→Q w' s') :
  wpAny (model X.prog X.w) A (getItem (.ref a) u) Q E s:=by
 rcases g with ⟨kvs,k,e,ey,l⟩ | ⟨kvs,k,b,e,ey,eb,l⟩
 ·subst ey
  obtain⟨z,hd,vs,rel,dd⟩:=zqh I.hok e
  obtain⟨w',hw,rw'⟩:=RelO.some_of (v:=v) (o:=valueAt vs k) (by rw[l];exact rel.val k)
  exact wpAny_getItem_of (znv ry) dd.mapOf hw (h w' _ (I.tok _) rw')
 ·subst ey
  cases (show u=Value.ref b from ry)
  obtain⟨z,hd,xs,rel,dd⟩:=zqg I.hok e
  obtain⟨w',hw,rw'⟩:=RelO.some_of (v:=v) (o:=(atKey xs k).map (·.2)) (by rw[l];exact rel.val k)
  obtain⟨p,hp,hp2⟩:=Option.map_eq_some_iff.mp hw
  refine wpAny_getItem_heap (tupleKind_room_in1 hu) (znu I.hok eb) dd hp ?_
  rw[hp2]
  exact h w' _ (I.tok _) rw'
theorem znQ {h':Heap} {t':Nat} {ob:HO} (I:Inv X pins σ H s) (mu:Mut (H a)) (hs:Heap.SameBut a s.heap h') (he:∃q,h'.get? a=some q) (new:ObjOk X.prog X.w (upd H a ob) h' a ob) :
  Inv X pins σ (upd H a ob) { s with heap:=h',toks:=t' } :=
 I.write (x:=a) (e:=a) mu (.inl rfl) (λb q hb z=>(hs.2 b hb).trans z) he new
theorem zrh {P:Program} {w:World} {H':Hp} {h':Heap} {kvs:List (Key×V)} {vs:List (Key×Value)} (z:kvs.length≤sizeLine) (hd:(a == sysModules)=false) (rel:KV kvs vs) (dd:h'.DictOf (zcw P w) a vs) :
  ObjOk P w H' h' a (.dK kvs):=⟨z,hd,vs,rel,dd⟩
theorem znR {H':Hp} {Q:Unit→Shared→Prop} (hu:A.units + 1 < cLine) (I:Inv X pins σ H s) (g:DPut H a y v H') (ry:RelV y u) (rv:RelV v r) (h:∀s',Inv X pins σ H' s'→Q () s') :
  wpAny (model X.prog X.w) A (setItem (.ref a) u r) Q E s:=by
 rcases g with ⟨kvs,k,e,ey,l,eH⟩ | ⟨kvs,k,b,e,ey,eb,l,eH⟩
 ·subst ey eH
  obtain⟨z,hd,vs,rel,dd⟩:=zr7 I.hok e
  have hz:vs.length≤sizeLine:=by rw[←rel.length];exact z
  have hl:(zlV kvs k v).length≤sizeLine:=by have:=zhm kvs k v;omega
  refine wpAny_setItem_pairs (hsz:=hz) (znv ry) dd λh' dd' hs=>h _ ?_
  have he:∃q,h'.get? a=some q:=let ⟨q,_,_,hq,_⟩:=dd';⟨q,hq⟩
  exact znQ I (by rw[e];exact True.intro) hs he (zrh hl hd (rel.put k rv) dd')
 ·subst ey eH
  cases (show u=Value.ref b from ry)
  obtain⟨z,hd,xs,rel,dd⟩:=zr6 I.hok e
  have hz:xs.length≤sizeLine:=by rw[←Paired.length rel];exact z
  have hl:(zlV kvs k v).length≤sizeLine:=by have:=zhm kvs k v;omega
  refine wpAny_setItem_heap (hsz:=hz) (tupleKind_room_in1 hu) (znu I.hok eb) dd λh' dd' hs=>h _ ?_
  obtain⟨q,es,ep,hq,h2,h3,h4,_,h5⟩:=dd'
  refine znQ I (by rw[e];exact True.intro) hs ⟨q,hq⟩ ⟨hl,hd,_,(rel.put k eb rv).keeps λc ys ec=>?_,q,es,ep,hq,h2,h3,h4,h5⟩
  rw[zbL (zeb ec e (λz=>nomatch z))]
  exact ec
end
section
variable {X : Cx} {pins : List (Addr × Obj)} {σ : St} {H : Hp} {s : Shared} {a : Addr} {kvs : List (Key × V)} {k : Key} {u : Value} {A : Around} {E : Value → Shared → Prop}
end
def zsc (i:Expr):Prop:=∀ov iv,subscripted i false ov iv=operate [ov,iv] (getItem ov iv)
theorem zmA {prog:Program} {w:World} {A:Around} {E:Value→Shared→Prop} {s:Shared} {env:Env} {value slice:Expr} {pos:Pos} {T id:String} {Q:Value→Shared→Prop}
  (hl:typeLookup (.type T) "__getitem__"=pure (some (.builtin id))) (hs:zsc slice)
  (h:wpAny (model prog w) A (eval value env) (λo s₁=>wpAny (model prog w) A (eval slice env) (λi s₂=>s₂.TypeIs o T∧wpAny (model prog w) A (getItem o i) Q E s₂) E s₁) E s) :
  wpAny (model prog w) A (eval (.Subscript value slice pos) env) Q E s:=by
 refine Subscript_ (wpAny_mono h (λo s₁ h₁=>wpAny_mono h₁ (λi s₂ h₂=>?_) λ_ _ x=>x) λ_ _ x=>x)
 obtain⟨hT,h₂⟩:=h₂
 unfold subscriptTail
 refine wpAny_bind ?_
 rw[getitemInPython_of_ne hT.not_modules]
 refine wpAny_bind (wpAny_specialOf hT hl ?_)
 have fin:wpAny (model prog w) A (subscripted slice false o i) (λr s₃=>wpAny (model prog w) A (letTemporaryGo value o r >>= λ_=>pure r) Q E s₃) E s₂:=by
  rw[hs o i]
  exact wpAny_operating (wpAny_mono h₂ (λr s₃ h₃=>wpAny_bind (wpAny_letTemporaryGo (wpAny_pure h₃))) λ_ _ x=>x)
 first
  | exact wpAny_pure (wpAny_bind fin)
  | exact wpAny_bind (wpAny_pure (wpAny_bind fin))
  | exact wpAny_bind fin
theorem zkO {X:Cx} {pins:List (Addr×Obj)} {σ:St} {H:Hp} {s:Shared} {a:Addr} {y:V} {o:Option V} (I:Inv X pins σ H s) (g:DGet H a y o):s.TypeIs (.ref a) "dict":=by
 rcases g with ⟨kvs,k,e,_,_⟩ | ⟨kvs,k,b,e,_,_,_⟩
 ·obtain⟨_,_,vs,_,dd⟩:=zqh I.hok e
  exact dd.typeIs
 ·obtain⟨_,_,xs,_,dd⟩:=zqg I.hok e
  exact dd.typeIs
def zrR (td ty:TE):TE:=λσ H Q=>td σ H λx H1=>ty σ H1 λy H2=>∃a v,x=.ref a∧DGet H2 a y (some v)∧Q v H2
def zrV (td ty tv:TE):TS:=λD σ H=>tv σ H λv H1=>td σ H1 λx H2=>ty σ H2 λy H3=>∃a H4,x=.ref a∧DPut H3 a y v H4∧D.nx σ H4
section
variable {X : Cx} {o i e value : Expr} {pos pos' tpos : Pos} {td ty tv : TE}
theorem zbS (hu:X.A.units + 1 < cLine) (ho:PE X o td) (hi:PE X i ty) (hs:zsc i):PE X (.Subscript o i pos) (zrR td ty):=by
 intro pins s σ H Q I h
 refine zmA PySem.F.slot_dict_getitem.lookup hs (thn (ho pins s σ H _ I h) λu s1 ⟨x,H1,I1,rx,q1⟩=>thn (hi pins s1 σ H1 _ I1 q1) λiv s2 ⟨y,H2,I2,ry,a,v,ex,g,q2⟩=>?_)
 subst ex
 obtain rfl:u=Value.ref a:=rx
 exact⟨zkO I2 g,znS hu I2 g ry λw' s3 I3 rw'=>⟨v,H2,I3,rw',q2⟩⟩
theorem zmX (hu:X.A.units + 1 < cLine) (ho:PE X o td) (hi:PE X i ty) (hv:PE X value tv) (hs:swapsWith value (some (.Subscript o i pos')) pos.line X.env=pure false) :
  PS X (.Assign [.Subscript o i pos'] value pos) (zrV td ty tv):=by
 intro pins s σ H D I h
 refine wpAny_Assign_Subscript (thn (hv pins s σ H _ I h) λr s1 ⟨v,H1,I1,rv,q1⟩=>thn (ho pins s1 σ H1 _ I1 q1) λu s2 ⟨x,H2,I2,rx,q2⟩=>thn (hi pins s2 σ H2 _ I2 q2) λiv s3 ⟨y,H3,I3,ry,a,H4,ex,g,q3⟩=>?_) hs
 subst ex
 obtain rfl:u=Value.ref a:=rx
 exact znR hu I3 g ry rv λs4 I4=>⟨σ,H4,I4,q3⟩
end
theorem zo4 {P:Program} {w:World} {H:Hp} (h:Heap) (hb:sysModules < h.objs.size):ObjOk P w H (h.push { cls:=.type "dict",data:=.dict #[] }) h.objs.size (.dK []) :=
 ⟨Nat.zero_le _,beq_eq_false_iff_ne.mpr (Ne.symm (Nat.ne_of_lt hb)),[],.nil,Heap.DictOf.new h⟩
def zqK:TE:=λ_ H Q=>∀p,H p=none→Q (.ref p) (upd H p (.dK []))
section
variable {X : Cx} {pos : Pos}
theorem zlh:PE X (.Dict [] [] pos) zqK:=λpins s σ H Q I h =>
 wpAny_Dict_empty ⟨.ref s.heap.objs.size,_,I.laid (a:=s.heap.objs.size) (o:=.dK []) (t':=s.toks) (λ_ _ q=>Heap.get?_push_of_some _ q) (Nat.le_refl _) (zo4 s.heap I.big),rfl,h _ (I.hok.fresh (Nat.le_refl _))⟩
end
structure M2 (X:Cx) (o:Expr) (m:Str) (apos:Pos) (e f:Expr) (cpos:Pos):Prop where
 base:attributeBase o m X.env (eval o X.env)=eval o X.env
 few:((backTo cpos (starEach [e,f] X.env)).all (λx=>!x.1) && (backToKw cpos (keywordEach [] X.env)).all (λx=>x.1.isSome)
  && decide (([e,f]:List Expr).length + ([]:List Keyword).length + (if ([]:List Keyword).isEmpty then 0 else 1) < 30))=true
 line:(apos.endLine == cpos.line)=true
 trees:backTo cpos (starEach [e,f] X.env)=[(false,eval e X.env),(false,eval f X.env)]
section
variable {X : Cx} {pins : List (Addr × Obj)} {σ : St} {H : Hp} {s : Shared} {a : Addr} {y d : V} {u r : Value} {o : Option V} {A : Around} {E : Value → Shared → Prop}
end
section
variable {X : Cx} {o e f : Expr} {apos cpos : Pos} {td ty tx : TE}
end
section
variable {X : Cx} {pins : List (Addr × Obj)} {σ : St} {H : Hp} {s : Shared} {a : Addr} {kvs : List (Key × V)} {A : Around} {E : Value → Shared → Prop}
end
section
variable {X : Cx} {pins : List (Addr × Obj)} {σ : St} {H : Hp} {s : Shared} {a : Addr} {y : V} {u : Value} {A : Around} {E : Value → Shared → Prop}
end
end L2
namespace L2
open PySem PySem.Spec PyProof.Rows
section
variable {prog : Program} {w : World} {A : Around} {E : Value → Shared → Prop}
end
section
variable {X : Cx}
end
end L2
namespace L2
open PySem PySem.Spec PyProof.Rows
theorem zh0:bootBuiltins "reversed"=some (.type "reversed"):=by decide +kernel
section
variable {X : Cx} {pins : List (Addr × Obj)} {σ : St} {H : Hp} {s : Shared} {h' : Heap}
theorem Inv.turnedL {t':Nat} {ch:List Addr} (I:Inv X pins σ H s) (k:∀b o,b ∉ ch→s.heap.get? b=some o→h'.get? b=some o) (hf:∀b∈ch,zh1 X pins H b):Inv X pins σ H { s with heap:=h',toks:=t' }:=by
 have nit:∀b u,H b=some u→b ∉ ch:=λb u e z=>by
  have q:=(hf b z).1
  rw[q] at e;cases e
 refine I.step (g':=s.gens) (d':=s.drawn) (ch:=ch) (λb hb=>⟨(hf b hb).2.2.2.1,(hf b hb).2.1,(hf b hb).2.2.2.2.1,(hf b hb).2.2.2.2.2⟩) (λb o _ _ hc e _=>k b o hc e) (λb o _ _ hc e _=>⟨o.slots,k b o hc e⟩)
  (λ_ _ _ _ n=>n) (λb o hc e=>⟨o,k b o hc e⟩) (λ_ _ e=>e) (λ_ _ _ e=>e) (λb ps e=>⟨#[],by rw[e];simp⟩) (λm hm=>?_) (λb u e=>?_) I.bare
 ·obtain⟨o,es,ep,ho,r⟩:=hm
  exact⟨o,es,ep,k _ o (λz=>(hf _ z).2.1 rfl) ho,r⟩
 ·refine (I.hok b u e).stay (λc v hc q=>k c v ?_ q) (λ_ q=>q) λ_ _ q=>q
  rcases hc with z | z
  ·rw[z];exact nit b u e
  ·exact nit c _ z
theorem Inv.turnedNew {t':Nat} {ch:List Addr} {T:Addr} {ob:HO} (I:Inv X pins σ H s) (k:∀b o,b ∉ ch→s.heap.get? b=some o→h'.get? b=some o) (hf:∀b∈ch,zh1 X pins H b) (hT:s.heap.objs.size≤T)
  (new:ObjOk X.prog X.w (upd H T ob) h' T ob):Inv X pins σ (upd H T ob) { s with heap:=h',toks:=t' }:=by
 have hn:H T=none:=I.hok.fresh hT
 have nit:∀b u,H b=some u→b ∉ ch:=λb u e z=>by
  have q:=(hf b z).1
  rw[q] at e;cases e
 refine I.step (g':=s.gens) (d':=s.drawn) (ch:=ch) (λb hb=>⟨(hf b hb).2.2.2.1,(hf b hb).2.1,(hf b hb).2.2.2.2.1,(hf b hb).2.2.2.2.2⟩) (λb o _ _ hc e _=>k b o hc e) (λb o _ _ hc e _=>⟨o.slots,k b o hc e⟩)
  (λb o _ e n=>?_) (λb o hc e=>⟨o,k b o hc e⟩) (λb xs e=>?_) (λb o u e=>?_) (λb ps e=>⟨#[],?_⟩) (λm hm=>?_) (λb u e=>?_) I.bare
 ·rw[zbL (Nat.ne_of_lt (Nat.lt_of_lt_of_le (Heap.lt_size e) hT))];exact n
 ·rw[zbL (zbI e hn)];exact e
 ·rw[zbL (zbI e hn)];exact e
 ·rw[zbL (zbI e hn),e];simp
 ·obtain⟨o,es,ep,ho,r⟩:=hm
  exact⟨o,es,ep,k _ o (λz=>(hf _ z).2.1 rfl) ho,r⟩
 ·by_cases hb:b=T
  ·subst hb
   rw[zbG] at e
   cases e
   exact new
  ·rw[zbL hb] at e
   refine (I.hok b u e).stay (λc v hc q=>k c v ?_ q) (λc q=>by rw[zbL (zbI q hn)];exact q) λc xs q=>by rw[zbL (zbI q hn)];exact q
   rcases hc with z | z
   ·rw[z];exact nit b u e
   ·exact nit c _ z
theorem Inv.lock {d:Addr} {u:HO} (I:Inv X pins σ H s) (h:H d=some u) (mu:Mut (some u)):∃od,Inv X pins σ (upd H d (.frz od u)) s:=by
 have x:=I.hok d u h
 have ex:∃od,s.heap.get? d=some od:=by
  cases u with
  | lst xs=>obtain⟨_,_,_,_,e⟩:=x;exact⟨_,e⟩
  | dK kvs=>obtain⟨_,_,_,_,o,_,_,e,_⟩:=x;exact⟨o,e⟩
  | dT kvs=>obtain⟨_,_,_,_,o,_,_,e,_⟩:=x;exact⟨o,e⟩
  | set S n=>obtain⟨o,_,_,_,e,_⟩:=x;exact⟨o,e⟩
  | ins C dx fs=>obtain⟨_,_,_,e,_⟩:=x;exact⟨_,e⟩
  | ext φ=>obtain⟨_,⟨_,e⟩,_⟩:=x;exact⟨_,e⟩
  | _=>exact False.elim mu
 obtain⟨od,e⟩:=ex
 have new:ObjOk X.prog X.w (upd H d (.frz od u)) s.heap d (.frz od u):=by
  refine⟨e,x.stay (λb v _ q=>q) (λb q=>?_) λb xs q=>?_⟩
  ·rw[zbL (λz=>by rw[z,h] at q;cases q;exact mu)];exact q
  ·rw[zbL (λz=>by rw[z,h] at q;cases q;exact mu)];exact q
 exact⟨od,I.write (x:=d) (e:=d) (t':=s.toks) (h':=s.heap) (by rw[h];exact mu) (.inl rfl) (λb v _ q=>q) ⟨od,e⟩ new⟩
theorem Inv.nofrz {d:Addr} {u:HO} (I:Inv X pins σ H s) (h:H d=some u) (mu:Mut (some u)):∀o' u',X.H_0 d≠some (.frz o' u'):=λo' u' e=>by
 have q:=I.base.frzs d o' u' e
 rw[h] at q
 cases q
 exact mu
theorem Inv.unlock {d:Addr} {od:Obj} {u:HO} (I:Inv X pins σ H s) (h:H d=some (.frz od u)) (hn:∀o' u',X.H_0 d≠some (.frz o' u')):Inv X pins σ (upd H d u) s:=by
 have neH:∀b o,H b=some o→(∀o' u',o≠.frz o' u')→b≠d:=λb o e hne z=>by
  rw[z,h] at e
  cases e
  exact hne _ _ rfl
 have neN:∀b,H b=none→b≠d:=λb e z=>by rw[z,h] at e;cases e
 refine⟨I.ok,I.os,I.bare,⟨I.base.keep,I.base.slot,λb o e n hx=>?_,I.base.there,λb xs e=>?_,λb o x e=>?_,λb ps e=>?_⟩,I.loc,I.cell,?_,λx c e=>?_,λp hp=>?_,λb o e=>?_,I.len⟩
 ·rw[zbL (neN b (I.base.free b o e n hx))];exact I.base.free b o e n hx
 ·have q:=I.base.tups b xs e
  rw[zbL (neH b _ q (λ_ _ z=>nomatch z))];exact q
 ·have q:=I.base.frzs b o x e
  rw[zbL (λz=>by rw[z] at e;exact hn _ _ e)];exact q
 ·obtain⟨m,q⟩:=I.base.tbls b ps e
  exact⟨m,by rw[zbL (neH b _ q (λ_ _ z=>nomatch z))];exact q⟩
 ·rw[zbL (neN _ I.free)];exact I.free
 ·rw[zbL (neN c (I.freeC x c e))];exact I.freeC x c e
 ·obtain⟨e,n,r⟩:=I.pin p hp
  exact⟨e,by rw[zbL (neN _ n)];exact n,r⟩
 ·by_cases hb:b=d
  ·rw[hb,zbG] at e
   cases e
   rw[hb]
   obtain⟨_,x⟩:=I.hok d _ h
   exact x.stay (λc v _ q=>q) (λc q=>by rw[zbL (neH c _ q (λ_ _ z=>nomatch z))];exact q) λc xs q=>by rw[zbL (neH c _ q (λ_ _ z=>nomatch z))];exact q
  ·rw[zbL hb] at e
   exact (I.hok b o e).stay (λc v _ q=>q) (λc q=>by rw[zbL (neH c _ q (λ_ _ z=>nomatch z))];exact q) λc xs q=>by rw[zbL (neH c _ q (λ_ _ z=>nomatch z))];exact q
end
def zqI (t:TE):TE:=λσ H Q=>∃d u,H d=some u∧Mut (some u)∧∀od,t σ (upd H d (.frz od u)) λv H'=>H' d=some (.frz od u)∧Q v (upd H' d u)
section
variable {X : Cx}
theorem zm2 {e:Expr} {t:TE} (h:PE X e t):PE X e (zqI t):=by
 intro pins s σ H Q I hw
 obtain⟨d,u,hd,mu,hw⟩:=hw
 obtain⟨od,I1⟩:=I.lock hd mu
 refine thn (h pins s σ _ _ I1 (hw od)) λv s1 ⟨x,H1,I2,r,e2,q⟩=>?_
 exact⟨x,_,I2.unlock e2 (I.nofrz hd mu),r,q⟩
theorem zpt {tg:Expr} {pins:List (Addr×Obj)} {σ:St} {H:Hp} {s:Shared} {R:It→Hp→Prop} {J:It} {tn:Nat→Heap→Prop} {tk:Nat} (I:Inv X pins σ H s) (o:Obj)
  (T:Turn X.prog X.w X.K tg J [s.heap.objs.size] s.heap.objs.size tn) (st:tn 0 (s.heap.push o)) (q:R J H):PIE X pins σ tg R (.ref s.heap.objs.size) { s with heap:=s.heap.push o,toks:=tk }:=by
 refine⟨s.heap.objs.size,[s.heap.objs.size],tn,J,H,rfl,I.kept λb ob e=>Heap.get?_push_of_some _ e,T,st,λb hb=>?_,q⟩
 have e:b=s.heap.objs.size:=by simpa using hb
 subst e
 exact I.fpOk (Nat.le_refl _) (I.hok.fresh (Nat.le_refl _))
end
section
variable {X : Cx} {tg : Expr}
end
def Itv (K:PySem.W.Frag) (a:Addr) (n:Nat):It :=
 ⟨λi H=>i < n∧∃(xs:List V) (x:V),SqL K H a xs∧xs[n - 1 - i]? = some x,λi H x H'=>H'=H∧∀xs,SqL K H a xs→xs[n - 1 - i]? = some x,λi _=>n≤i⟩
theorem zoe {P:Program} {w:World} {K:PySem.W.Frag} {tg:Expr} (a it:Addr) (n:Nat):Turn P w K tg (Itv K a n) [it] it (λi h=>i≤n∧h.IsRevIter it a ((n:Int) - 1 - (i:Nat))) where
 mem:=by simp
 obj:=λi h st b hb=>by
  have e:b=it:=by simpa using hb
  subst e
  obtain⟨_,o,e,c,d⟩:=st
  exact⟨o,e,λv z=>by rw[d] at z;cases z⟩
 keep:=λi h h' st k=>⟨st.1,st.2.at λo e=>k it (by simp) o e⟩
 item:=by
  intro X hP hw hK hc i pins s σ H E I hf st hg
  subst hP hw hK
  obtain⟨hin,xs,x,hq,hx⟩:=hg
  obtain⟨its,rv,p,hz⟩:=I.list hq
  obtain⟨u,hu,ru⟩:=rv.get hx
  obtain⟨f0,f1,f2,f3,f4,f5⟩:=hf it (by simp)
  obtain⟨_,hit⟩:=st
  have e1:(n:Int) - 1 - ((i:Nat):Int)=((n - 1 - i:Nat):Int):=by omega
  rw[e1] at hit
  refine wpAny_pyNext_rev_item hit p.isList (x:=u) (by simpa using hu) λh' st' sb=>?_
  have e2:((n - 1 - i:Nat):Int) - 1=(n:Int) - 1 - ((i + 1:Nat):Int):=by omega
  rw[e2] at st'
  have I1:Inv X pins σ H { s with heap:=h' }:=I.turned (t':=s.toks) (λb o hb e=>(sb.2 b hb).trans e) f0 f1 f3 f4 f5
  obtain⟨o,e,c,d⟩:=id st'
  exact⟨u,rfl,zoZ (s:={ s with heap:=h' }) e c d (by decide) ⟨x,H,I1,ru,⟨rfl,λys hy=>by rw[I.list_inj hy hq];exact hx⟩,⟨hin,st'⟩,λb hb=>(hf b hb).1⟩⟩
 done:=by
  intro X hP hw hK hc i pins s σ H E I hf st hg
  subst hP hw hK
  obtain⟨f0,f1,f2,f3,f4,f5⟩:=hf it (by simp)
  obtain⟨hin,hit⟩:=st
  have hge:n≤i:=hg
  have e1:(n:Int) - 1 - ((i:Nat):Int)=-1:=by omega
  rw[e1] at hit
  exact wpAny_pyNext_rev_end (I.ok.hd hc) hit λh' eb=>⟨rfl,I.turned (t':=s.toks) (λb o hb e=>eb b o hb e) f0 f1 f3 f4 f5⟩
 self:=λA i s Q E st h=>wpAny_pyIter_revIter st.2 h
def iRev (K:PySem.W.Frag) (ta:TA):TI:=λσ H R=>ta σ H λvs H1=>∃(a:Addr) (xs:List V),vs=[.ref a]∧SqL K H1 a xs∧R (Itv K a xs.length) H1
section
variable {X : Cx} {tg : Expr}
theorem zky {e:Expr} {ta:TA} {p pos:Pos} (hg:Gl X "reversed") (hm:X.mg "reversed"=none) (ha:PA X [e] ta) (hs:starEach [e] X.env=[(false,eval e X.env)]:=by rfl):PI X tg (.Call (.Name "reversed" p) [e] [] pos) (iRev X.K ta):=by
 intro pins s σ H R I h
 refine Call_ (zfJ I hg hm zh0 (PyProof.Rows.callWith_type1 (thn (ha pos pins s σ H _ I h) λus s1 ⟨vs,H1,I1,r1,q1⟩=>?_) hs rfl))
 obtain⟨a,xs,e,hq,q⟩:=q1
 subst e
 cases r1 with
 | cons r rr =>
  cases rr
  cases r
  obtain⟨its,rv,p',hz⟩:=I1.list hq
  have hl:=rv.length
  have e1:((its.toArray.size:Nat):Int) - 1=(xs.length:Int) - 1 - ((0:Nat):Int):=by simp only [List.size_toArray];omega
  refine call_reversed_list p'.isList (wpAny_pyIter_revIter (l:=a) (i:=((its.toArray.size:Nat):Int) - 1) ⟨_,Heap.get?_push_size _ rfl,rfl,rfl⟩ ?_)
  refine zpt (tk:=s1.toks) I1 _ (zoe a _ xs.length) ⟨Nat.zero_le _,?_⟩ q
  rw[←e1]
  exact⟨_,Heap.get?_push_size _ rfl,rfl,rfl⟩
end
section
variable {prog : Program} {w : World} {A : Around} {E : Value → Shared → Prop} {s : Shared}
end
theorem zq8 {κ:Type} {kvs:List (κ×V)} {vs:List (κ×Value)} (h:KV kvs vs):∀{i:Nat} {k:κ} {v:V},kvs[i]? = some (k,v)→∃u,vs[i]? = some (k,u)∧RelV v u:=by
 unfold KV at h
 induction h with
 | nil=>intro i k v e;simp at e
 | @cons a b l₁ l₂ r t ih =>
  intro i k v e
  cases i with
  | zero =>
   simp only [List.getElem?_cons_zero,Option.some.injEq] at e
   subst e
   refine⟨b.2,?_,r.2⟩
   simp only [List.getElem?_cons_zero]
   exact congrArg some (Prod.ext r.1.symm rfl)
  | succ j =>
   simp only [List.getElem?_cons_succ] at e ⊢
   exact ih e
theorem zom {k:Key} {u:Value} (h:zhZ k u=true):RelV (kV k) u:=by
 rcases zcp h with ⟨i,t,rfl,rfl⟩ | ⟨x,t,rfl,rfl⟩
 ·exact⟨t,rfl⟩
 ·exact⟨t,rfl⟩
section
variable {X : Cx} {pins : List (Addr × Obj)} {σ : St} {H : Hp} {s : Shared} {d : Addr} {o : Obj}
theorem Inv.frzK {kvs:List (Key×V)} (I:Inv X pins σ H s) (h:H d=some (.frz o (.dK kvs))) :
  (d == sysModules)=false∧s.heap.get? d=some o∧o.ExactDict∧∃(es:Array DictEntry) (ep:Nat) (vs:List (Key×Value)),o.data=.dict es ep∧es.size=kvs.length∧KV kvs vs∧s.heap.DictAt (zcw X.prog X.w) d vs ep:=by
 obtain⟨hd,z,hs,vs,kv,o',es,ep,ho,hx,hdt,r⟩:=I.hok d _ h
 rw[hd] at ho
 cases ho
 refine⟨hs,hd,hx,es,ep,vs,hdt,?_,kv,o,es,hd,hx,hdt,r⟩
 have l1:=r.2.1.length
 have l2:kvs.length=vs.length:=Paired.length kv
 rw[Array.length_toList] at l1
 omega
end
def Iti (d:Addr) (o:Obj) (kvs:List (Key×V)):It :=
 ⟨λi H=>H d=some (.frz o (.dK kvs))∧i < kvs.length,λi H x H'=>∃T k v,kvs[i]? = some (k,v)∧x=.ref T∧H T=none∧H'=upd H T (.tup [kV k,v]),λi H=>H d=some (.frz o (.dK kvs))∧kvs.length≤i⟩
theorem znM {o:Obj} {es es':Array DictEntry} {ep ep':Nat} (h:o.data=.dict es ep) (h':o.data=.dict es' ep'):es'=es∧ep'=ep:=by
 rw[h] at h'
 cases h'
 exact⟨rfl,rfl⟩
section
variable {P : Program} {w : World} {K : PySem.W.Frag} {tg : Expr} {d : Addr} {o : Obj} {es : Array DictEntry} {ep : Nat}
theorem zlO {kvs:List (Key×V)} {elts:List Expr} {kk:Nat} {tpos:Pos} (it:Addr) (hod:o.data=.dict es ep) :
  Turn P w K (.Tuple elts kk tpos) (Iti d o kvs) [it] it (λi h=>∃ok ov,IsItemIter h it d i kvs.length ep ok ov) where
 mem:=by simp
 obj:=λi h st b hb=>by
  have e:b=it:=by simpa using hb
  subst e
  obtain⟨ok,ov,e⟩:=st
  exact⟨_,e,λv z=>nomatch z⟩
 keep:=λi h h' st k=>let ⟨ok,ov,e⟩:=st;⟨ok,ov,k it (by simp) _ e⟩
 item:=by
  intro X hP hw hK hc i pins s σ H E I hf st hg
  subst hP hw hK
  obtain⟨hd,hi⟩:=hg
  obtain⟨hs,hgd,hx,es',ep',vs,hdt,hsz,kv,hm⟩:=I.frzK hd
  obtain⟨rfl,rfl⟩:=znM hod hdt
  obtain⟨⟨k,v⟩,hkv⟩:∃p,kvs[i]? = some p:=⟨kvs[i],List.getElem?_eq_getElem hi⟩
  obtain⟨u,hu,ru⟩:=zq8 kv hkv
  have hl:kvs.length=vs.length:=Paired.length kv
  obtain⟨ok,ov,he⟩:=st
  rw[hl] at he
  have hlt:it < s.heap.objs.size:=Heap.lt_size he
  refine wpAny_pyNext_items_item he hm hu λkey h' hkey ho hT hz hk=>?_
  refine⟨_,rfl,wpAny_letOwnedTupleGo_items (s:={ s with heap:=h' }) ho λh'' he' sb=>?_⟩
  have hT2:h''.get? s.heap.objs.size=some { cls:=.type "tuple",data:=.seq #[key,u] }:=(sb.2 _ (Nat.ne_of_gt hlt)).trans hT
  have new:ObjOk X.prog X.w (upd H s.heap.objs.size (.tup [kV k,v])) h'' s.heap.objs.size (.tup [kV k,v]) :=
   ⟨by show 2≤sizeLine;decide,[key,u],.cons (zom (show zhZ k key=true from hkey)) (.cons ru .nil),⟨_,hT2,rfl,_,rfl⟩⟩
  have I1:Inv X pins σ (upd H s.heap.objs.size (.tup [kV k,v])) { s with heap:=h'' } :=
   I.turnedNew (t':=s.toks) (ch:=[it]) (λb ob hb e=>(sb.2 b (by simpa using hb)).trans (hk b ob (by simpa using hb) e)) hf (Nat.le_refl _) new
  refine⟨.ref s.heap.objs.size,_,I1,rfl,⟨_,k,v,hkv,rfl,I.hok.fresh (Nat.le_refl _),rfl⟩,⟨key,u,?_⟩,λb hb=>?_⟩
  ·rw[hl];exact he'
  ·have e:b=it:=by simpa using hb
   rw[e,zbL (Nat.ne_of_lt hlt)]
   exact (hf it (by simp)).1
 done:=by
  intro X hP hw hK hc i pins s σ H E I hf st hg
  subst hP hw hK
  obtain⟨hd,hi⟩:=hg
  obtain⟨f0,f1,f2,f3,f4,f5⟩:=hf it (by simp)
  obtain⟨hs,hgd,hx,es',ep',vs,hdt,hsz,kv,hm⟩:=I.frzK hd
  obtain⟨rfl,rfl⟩:=znM hod hdt
  have hl:kvs.length=vs.length:=Paired.length kv
  obtain⟨ok,ov,he⟩:=st
  rw[hl] at he
  exact wpAny_pyNext_items_end (I.ok.hd hc) he hm (List.getElem?_eq_none (by omega)) λh' eb=>⟨rfl,I.turned (t':=s.toks) (λb ob hb e=>eb b ob hb e) f0 f1 f3 f4 f5⟩
 self:=λA i s Q E st h=>let ⟨_,_,e⟩:=st;PySem.W.kcp_self e h
end
def zrd (td:TE):TI:=λσ H R=>td σ H λx H1=>∃d o kvs,x=.ref d∧H1 d=some (.frz o (.dK kvs))∧R (Iti d o kvs) H1
section
variable {X : Cx} {tg e : Expr} {td : TE} {apos cpos : Pos}
theorem zlf {elts:List Expr} {kk:Nat} {tpos:Pos} (he:PE X e td) (hbase:attributeBase e "items" X.env (eval e X.env)=eval e X.env:=by rfl) (hline:(apos.endLine == cpos.line)=true:=by rfl) :
  PI X (.Tuple elts kk tpos) (.Call (.Attribute e "items" apos) [] [] cpos) (zrd td):=by
 intro pins s σ H R I h
 refine wpAny_Call_method (T:="dict") (id:="dict.items") hbase rfl hline F.plainAttrs_dict F.slot_dict_items F.type_dict_items (thn (he pins s σ H _ I h) λu s1 ⟨x,H1,I1,rx,d,o,kvs,ex,hd,q⟩=>?_)
 subst ex
 obtain rfl:u=Value.ref d:=rx
 obtain⟨hs,hgd,hx,es,ep,vs,hdt,hsz,kv,hm⟩:=I1.frzK hd
 have hl:kvs.length=vs.length:=Paired.length kv
 refine⟨hm.dictOf.typeIs,hm.dictOf.mapOf.noDict,?_⟩
 have I2:Inv X pins σ H1 { s1 with heap:=s1.heap.push { cls:=.type "dict_items",data:=.fields #[.ref d] } }:=I1.kept (t':=s1.toks) λb ob q=>Heap.get?_push_of_some _ q
 have fin:wpAny (model X.prog X.w) X.A (pyIter (.ref s1.heap.objs.size)) (PIE X pins σ (.Tuple elts kk tpos) R) X.xe { s1 with heap:=s1.heap.push { cls:=.type "dict_items",data:=.fields #[.ref d] } }:=by
  refine wpAny_pyIter_items (d:=d) (knd:=zcw X.prog X.w) ⟨_,Heap.get?_push_size _ rfl,rfl,rfl⟩ (hm.push _) (zpt (tk:=s1.toks) I2 _ (zlO _ hdt) ⟨.none,.none,?_⟩ q)
  rw[hl]
  exact Heap.get?_push_size _ rfl
 show wpAny _ _ (callWith cpos (.builtin "dict.items") [.ref d] [] []) _ X.xe s1
 exact method_meetsIn F.slot_dict_items F.entry_dict_items rfl (PySem.evalArgs_none ⟨rfl,hm.dictOf.typeIs,F.args_dict_items_1 _,_,meets_dict_items (zcw X.prog X.w) d hs,⟨vs,hm.dictOf⟩,fin⟩)
end
def Ite (K:PySem.W.Frag) (a:Addr):It :=
 ⟨λi H=>∃(xs:List V) (x:V),SqL K H a xs∧xs[i]? = some x,λi H v H'=>∃T x,v=.ref T∧H T=none∧H'=upd H T (.tup [.int (i:Nat),x])∧∀xs,SqL K H a xs→xs[i]? = some x,λi H=>∃xs:List V,SqL K H a xs∧xs.length≤i⟩
theorem zmv {P:Program} {w:World} {K:PySem.W.Frag} {elts:List Expr} {kk:Nat} {tpos:Pos} (a e it:Addr) :
  Turn P w K (.Tuple elts kk tpos) (Ite K a) [e,it] e (λi h=>(∃old,IsEnum h e it ((i:Nat):Int) old)∧h.IsListIter it a i∧e≠it) where
 mem:=by simp
 obj:=λi h st b hb=>by
  obtain⟨⟨old,he⟩,⟨o,ho,hc,hd⟩,_⟩:=st
  have e':b=e∨b=it:=by simpa using hb
  rcases e' with z | z
  ·rw[z];exact⟨_,he,λv q=>nomatch q⟩
  ·rw[z];exact⟨o,ho,λv q=>by rw[hd] at q;cases q⟩
 keep:=λi h h' st k=>let ⟨⟨old,he⟩,hi,hne⟩:=st;⟨⟨old,k e (by simp) _ he⟩,hi.at λo q=>k it (by simp) o q,hne⟩
 item:=by
  intro X hP hw hK hc i pins s σ H E I hf st hg
  subst hP hw hK
  obtain⟨⟨old,he⟩,hit,hne⟩:=st
  obtain⟨xs,x,hq,hx⟩:=hg
  obtain⟨its,rv,p,hz⟩:=I.list hq
  obtain⟨u,hu,ru⟩:=rv.get hx
  have hel:e < s.heap.objs.size:=Heap.lt_size he
  have hil:it < s.heap.objs.size:=by obtain⟨_,q,_⟩:=hit;exact Heap.lt_size q
  refine wpAny_pyNext_enum_item he hit p.isList (x:=u) (by simpa using hu) hne λh' ho hit' hT hsz hk=>?_
  refine⟨_,rfl,wpAny_letOwnedTupleGo_enum (s:={ s with heap:=h',toks:=s.toks + 1 }) ho λh'' he' sb=>?_⟩
  have hT2:h''.get? s.heap.objs.size=some { cls:=.type "tuple",data:=.seq #[.int i s.toks,u] }:=(sb.2 _ (Nat.ne_of_gt hel)).trans hT
  have new:ObjOk X.prog X.w (upd H s.heap.objs.size (.tup [.int (i:Nat),x])) h'' s.heap.objs.size (.tup [.int (i:Nat),x]) :=
   ⟨by show 2≤sizeLine;decide,[.int i s.toks,u],.cons ⟨_,rfl⟩ (.cons ru .nil),⟨_,hT2,rfl,_,rfl⟩⟩
  have I1:Inv X pins σ (upd H s.heap.objs.size (.tup [.int (i:Nat),x])) { s with heap:=h'',toks:=s.toks + 1 } :=
   I.turnedNew (ch:=[e,it]) (λb ob hb q=>(sb.2 b (λz=>hb (by simp [z]))).trans (hk b ob (λz=>hb (by simp [z])) (λz=>hb (by simp [z])) q)) hf (Nat.le_refl _) new
  refine⟨.ref s.heap.objs.size,_,I1,rfl,⟨_,x,rfl,I.hok.fresh (Nat.le_refl _),rfl,λys hy=>by rw[I.list_inj hy hq];exact hx⟩,⟨⟨u,?_⟩,hit'.at λo q=>(sb.2 it (Ne.symm hne)).trans q,hne⟩,λb hb=>?_⟩
  ·have e1:((i + 1:Nat):Int)=(i:Int) + 1:=by omega
   rw[e1];exact he'
  ·have hb':b < s.heap.objs.size:=by
    have e':b=e∨b=it:=by simpa using hb
    rcases e' with z | z
    ·rw[z];exact hel
    ·rw[z];exact hil
   rw[zbL (Nat.ne_of_lt hb')]
   exact (hf b hb).1
 done:=by
  intro X hP hw hK hc i pins s σ H E I hf st hg
  subst hP hw hK
  obtain⟨⟨old,he⟩,hit,hne⟩:=st
  obtain⟨xs,hq,hx⟩:=hg
  obtain⟨its,rv,p,hz⟩:=I.list hq
  obtain⟨f0,f1,f2,f3,f4,f5⟩:=hf it (by simp)
  have hl:=rv.length
  exact wpAny_pyNext_enum_end (I.ok.hd hc) he hit p.isList (by simp;omega) λh' eb=>⟨rfl,I.turned (t':=s.toks) (λb o hb q=>eb b o hb q) f0 f1 f3 f4 f5⟩
 self:=λA i s Q E st h=>let ⟨⟨_,he⟩,_⟩:=st;wpAny_pyIter_enum he h
def zr3 (K:PySem.W.Frag) (ta:TA):TI:=λσ H R=>ta σ H λvs H1=>∃a xs,vs=[.ref a]∧SqL K H1 a xs∧R (Ite K a) H1
theorem zkz {X:Cx} {e:Expr} {ta:TA} {p pos tpos:Pos} {elts:List Expr} {kk:Nat} (hg:Gl X "enumerate") (hm:X.mg "enumerate"=none) (ha:PA X [e] ta) (hs:starEach [e] X.env=[(false,eval e X.env)]:=by rfl) :
  PI X (.Tuple elts kk tpos) (.Call (.Name "enumerate" p) [e] [] pos) (zr3 X.K ta):=by
 intro pins s σ H R I h
 refine Call_ (zfJ I hg hm boot_enumerate (PyProof.Rows.callWith_type1 (thn (ha pos pins s σ H _ I h) λus s1 ⟨vs,H1,I1,r1,q1⟩=>?_) hs rfl))
 obtain⟨a,xs,ex,hq,q⟩:=q1
 subst ex
 cases r1 with
 | cons r rr =>
  cases rr
  cases r
  obtain⟨its,rv,p',hz⟩:=I1.list hq
  refine call_enumerate_list p'.isList λh' he hit hsz hk=>wpAny_pyIter_enum he ?_
  have I2:Inv X pins σ H1 { s1 with heap:=h' }:=I1.kept (t':=s1.toks) hk
  refine⟨s1.heap.objs.size + 1,[s1.heap.objs.size + 1,s1.heap.objs.size],_,_,H1,rfl,I2,zmv a (s1.heap.objs.size + 1) s1.heap.objs.size,⟨⟨.none,he⟩,hit,Nat.succ_ne_self _⟩,λb hb=>?_,q⟩
  have e':b=s1.heap.objs.size + 1∨b=s1.heap.objs.size:=by simpa using hb
  have hle:s1.heap.objs.size≤b:=by
   rcases e' with z | z
   ·rw[z];exact Nat.le_add_right _ _
   ·rw[z];exact Nat.le_refl _
  exact I1.fpOk hle (I1.hok.fresh hle)
theorem zka:bootBuiltins "zip"=some (.type "zip"):=by decide +kernel
def Itz (K:PySem.W.Frag) (a b:Addr):It :=
 ⟨λi H=>∃(xs ys:List V) (x y:V),SqL K H a xs∧SqL K H b ys∧xs[i]? = some x∧ys[i]? = some y,
  λi H v H'=>∃T x y,v=.ref T∧H T=none∧H'=upd H T (.tup [x,y])∧(∀xs,SqL K H a xs→xs[i]? = some x)∧∀ys,SqL K H b ys→ys[i]? = some y,
  λi H=>∃xs ys:List V,SqL K H a xs∧SqL K H b ys∧(xs.length≤i∨ys.length≤i)⟩
theorem zod {P:Program} {w:World} {K:PySem.W.Frag} {elts:List Expr} {kk:Nat} {tpos:Pos} {a b z TI TO i1 i2:Addr} (D:ZipApart z TI TO i1 i2 a b) :
  Turn P w K (.Tuple elts kk tpos) (Itz K a b) [z,TI,TO,i1,i2] z (λi h=>IsZip h z TI TO .none∧IsPair h TI (.ref i1) (.ref i2)∧(∃x y,IsPair h TO x y)∧h.IsListIter i1 a i∧h.IsListIter i2 b i) where
 mem:=by simp
 obj:=λi h st c hc=>by
  obtain⟨hz,hTI,⟨x,y,hTO⟩,⟨o1,e1,_,d1⟩,⟨o2,e2,_,d2⟩⟩:=st
  have e':c=z∨c=TI∨c=TO∨c=i1∨c=i2:=by simpa using hc
  rcases e' with q | q | q | q | q
  ·rw[q];exact⟨_,hz,λv q=>nomatch q⟩
  ·rw[q];exact⟨_,hTI,λv q=>nomatch q⟩
  ·rw[q];exact⟨_,hTO,λv q=>nomatch q⟩
  ·rw[q];exact⟨o1,e1,λv q=>by rw[d1] at q;cases q⟩
  ·rw[q];exact⟨o2,e2,λv q=>by rw[d2] at q;cases q⟩
 keep:=λi h h' st k=>by
  obtain⟨hz,hTI,⟨x,y,hTO⟩,h1,h2⟩:=st
  exact⟨k z (by simp) _ hz,k TI (by simp) _ hTI,⟨x,y,k TO (by simp) _ hTO⟩,h1.at λo q=>k i1 (by simp) o q,h2.at λo q=>k i2 (by simp) o q⟩
 item:=by
  intro X hP hw hK hc i pins s σ H E I hf st hg
  subst hP hw hK
  obtain⟨hz,hTI,⟨x0,y0,hTO⟩,h1,h2⟩:=st
  obtain⟨xs,ys,x,y,hqx,hqy,hx,hy⟩:=hg
  obtain⟨its,rv,p,_⟩:=I.list hqx
  obtain⟨its2,rv2,p2,_⟩:=I.list hqy
  obtain⟨u,hu,ru⟩:=rv.get hx
  obtain⟨u2,hu2,ru2⟩:=rv2.get hy
  have hzl:z < s.heap.objs.size:=Heap.lt_size hz
  refine wpAny_pyNext_zip_item D hz hTI hTO h1 h2 p.isList p2.isList (x:=u) (y:=u2) (by simpa using hu) (by simpa using hu2) λh' z' TO' h1' h2' hT hsz hk=>?_
  refine⟨_,rfl,wpAny_letOwnedTupleGo_zip (s:={ s with heap:=h' }) z' λh'' z'' sb=>?_⟩
  have hT2:h''.get? s.heap.objs.size=some { cls:=.type "tuple",data:=.seq #[u,u2] }:=(sb.2 _ (Nat.ne_of_gt hzl)).trans hT
  have new:ObjOk X.prog X.w (upd H s.heap.objs.size (.tup [x,y])) h'' s.heap.objs.size (.tup [x,y]) :=
   ⟨by show 2≤sizeLine;decide,[u,u2],.cons ru (.cons ru2 .nil),⟨_,hT2,rfl,_,rfl⟩⟩
  have I1:Inv X pins σ (upd H s.heap.objs.size (.tup [x,y])) { s with heap:=h'' } :=
   I.turnedNew (t':=s.toks) (ch:=[z,TI,TO,i1,i2]) (λc o hb q=>(sb.2 c (λq'=>hb (by simp [q']))).trans (hk c o (λq'=>hb (by simp [q'])) (λq'=>hb (by simp [q'])) (λq'=>hb (by simp [q'])) (λq'=>hb (by simp [q'])) q)) hf (Nat.le_refl _) new
  refine⟨.ref s.heap.objs.size,_,I1,rfl,⟨_,x,y,rfl,I.hok.fresh (Nat.le_refl _),rfl,λl hl=>by rw[I.list_inj hl hqx];exact hx,λl hl=>by rw[I.list_inj hl hqy];exact hy⟩,⟨z'',?_,⟨u,u2,?_⟩,?_,?_⟩,λc hcm=>?_⟩
  ·exact (sb.2 _ D.TIz).trans (hk _ _ D.TIz D.TITO D.TIi1 D.TIi2 hTI)
  ·exact (sb.2 _ D.TOz).trans TO'
  ·exact h1'.at λo q=>(sb.2 _ D.i1z).trans q
  ·exact h2'.at λo q=>(sb.2 _ D.i2z).trans q
  ·have hlt:c < s.heap.objs.size:=by
    have e':c=z∨c=TI∨c=TO∨c=i1∨c=i2:=by simpa using hcm
    rcases e' with q | q | q | q | q
    ·rw[q];exact hzl
    ·rw[q];exact Heap.lt_size hTI
    ·rw[q];exact Heap.lt_size hTO
    ·rw[q];obtain⟨_,e1,_⟩:=h1;exact Heap.lt_size e1
    ·rw[q];obtain⟨_,e2,_⟩:=h2;exact Heap.lt_size e2
   rw[zbL (Nat.ne_of_lt hlt)]
   exact (hf c hcm).1
 done:=by
  intro X hP hw hK hc i pins s σ H E I hf st hg
  subst hP hw hK
  obtain⟨hz,hTI,⟨x0,y0,hTO⟩,h1,h2⟩:=st
  obtain⟨xs,ys,hqx,hqy,hend⟩:=hg
  obtain⟨its,rv,p,_⟩:=I.list hqx
  obtain⟨its2,rv2,p2,_⟩:=I.list hqy
  have l1:=rv.length
  have l2:=rv2.length
  have he:its.toArray[i]? = none∨its2.toArray[i]? = none:=by
   rcases hend with q | q
   ·exact .inl (by simp;omega)
   ·exact .inr (by simp;omega)
  exact wpAny_pyNext_zip_end (I.ok.hd hc) D hz hTI hTO h1 h2 p.isList p2.isList he λh' hk=>⟨rfl,I.turnedL (t':=s.toks) (ch:=[z,TI,TO,i1,i2]) (λc o hb q =>
   hk c o (λq'=>hb (by simp [q'])) (λq'=>hb (by simp [q'])) (λq'=>hb (by simp [q'])) (λq'=>hb (by simp [q'])) q) hf⟩
 self:=λA i s Q E st h=>wpAny_pyIter_zip st.1 h
def iZip (K:PySem.W.Frag) (ta:TA):TI:=λσ H R=>ta σ H λvs H1=>∃a b xs ys,vs=[.ref a,.ref b]∧SqL K H1 a xs∧SqL K H1 b ys∧R (Itz K a b) H1
theorem zps {X:Cx} {e e2:Expr} {ta:TA} {p pos tpos:Pos} {elts:List Expr} {kk:Nat} (hg:Gl X "zip") (hm:X.mg "zip"=none) (ha:PA X [e,e2] ta)
  (hs:starEach [e,e2] X.env=(false,eval e X.env)::starEach [e2] X.env:=by rfl) (hpl:(backTo pos (starEach [e2] X.env)).any (·.1)=false:=by rfl) :
  PI X (.Tuple elts kk tpos) (.Call (.Name "zip" p) [e,e2] [] pos) (iZip X.K ta):=by
 intro pins s σ H R I h
 refine Call_ (zfJ I hg hm zka (PyProof.Rows.callWith_type1 (thn (ha pos pins s σ H _ I h) λus s1 ⟨vs,H1,I1,r1,q1⟩=>?_) hs hpl))
 obtain⟨a,b,xs,ys,ex,hqx,hqy,q⟩:=q1
 subst ex
 cases r1 with
 | cons r rr =>
  cases rr with
  | cons r' rr =>
   cases rr
   cases r
   cases r'
   obtain⟨its,rv,p1,_⟩:=I1.list hqx
   obtain⟨its2,rv2,p2,_⟩:=I1.list hqy
   have la:a < s1.heap.objs.size:=p1.lt
   have lb:b < s1.heap.objs.size:=p2.lt
   refine call_zip_2 p1.isList p2.isList λh' hz hTI hTO h1 h2 hsz hk=>wpAny_pyIter_zip hz ?_
   have I2:Inv X pins σ H1 { s1 with heap:=h' }:=I1.kept (t':=s1.toks) hk
   refine⟨s1.heap.objs.size + 4,[s1.heap.objs.size + 4,s1.heap.objs.size + 2,s1.heap.objs.size + 3,s1.heap.objs.size,s1.heap.objs.size + 1],_,_,H1,rfl,I2,zod (PySem.W.ktu_apart s1.heap.objs.size a b la lb),⟨hz,hTI,⟨_,_,hTO⟩,h1,h2⟩,λc hcm=>?_,q⟩
   have e':c=s1.heap.objs.size + 4∨c=s1.heap.objs.size + 2∨c=s1.heap.objs.size + 3∨c=s1.heap.objs.size∨c=s1.heap.objs.size + 1:=by simpa using hcm
   have hle:s1.heap.objs.size≤c:=by
    rcases e' with z | z | z | z | z
    ·rw[z];exact Nat.le_add_right _ _
    ·rw[z];exact Nat.le_add_right _ _
    ·rw[z];exact Nat.le_add_right _ _
    ·rw[z];exact Nat.le_refl _
    ·rw[z];exact Nat.le_add_right _ _
   exact I1.fpOk hle (I1.hok.fresh hle)
end L2
section
namespace Bits
open PySem PyProof.Rows
end Bits
end
section
namespace TL
open PySem PySem.Builtin PySem.Builtin.Str PySem.StrLaws
end TL
end
namespace L2
open PySem PySem.Spec PyProof.Rows
section
variable {X : Cx} {pins : List (Addr × Obj)} {σ : St} {H : Hp} {s : Shared} {Q : VK}
end
section
variable {X : Cx}
end
section
variable {X : Cx} {o e : Expr} {to te : TE}
end
end L2
namespace L2
open PySem PySem.Spec PyProof.Rows
section
variable {X : Cx}
end
end L2
namespace Att
open PySem PySem.W PySem.Calls PyProof.Rows
section
variable {prog : Program} {w : World} {A : Around} {E : Value → Shared → Prop} {s : Shared} {K : Frag}
end
end Att
namespace L2
open PySem PySem.Spec PyProof.Rows
end L2
namespace L2
open PySem PySem.Spec PyProof.Rows
end L2
namespace L2
open PySem PySem.Spec PyProof.Rows
def zdy (s:Stmt) (j:Nat):Stmt:=match s with
 | .ClassDef _ _ _ body _ _ _ _ _ _ _=>body.getD j (.Pass ⟨0,0,0,0⟩)
 | _=>.Pass ⟨0,0,0,0⟩
def zgg (s:Stmt):Arguments:=match s with
 | .FunctionDef _ a _ _ _ _ _ _ _ _=>a
 | _=>{ posonlyargs:=[],args:=[],vararg:=none,kwonlyargs:=[],kw_defaults:=[],kwarg:=none,defaults:=[] }
def zfr (s:Stmt):List Stmt:=match s with
 | .FunctionDef _ _ b _ _ _ _ _ _ _=>b
 | _=>[]
def zbK (s:Stmt):Scope:=match s with
 | .FunctionDef _ _ _ _ _ _ sc _ _ _=>sc
 | _=>{ kind:=.function,names:=[],isGenerator:=false,isCoroutine:=false }
abbrev CX0:CXT:=λ_ _ _ _ _ _=>False
abbrev E0:XK:=λ_ _ _=>False
theorem zm5 {X:Cx}:zgu CX0 X E0:=λ_ _ _ _ _ _ _ h=>h.elim
structure Fun (K:PySem.W.Frag) (x qual:Str) (st:Stmt) (f:Addr) (fd:FuncData):Prop where
 ex:∃(oc:Value) (od:Option Addr) (kV doc pm:Value) (an:Option Addr) (cdv ct:Value) (osl:Array (Option Value)),
  fd=PySem.W.fnOf x qual (zgg st) (zfr st) (zbK st) .none kV doc pm an cdv ct∧K.lookup f=some ⟨oc,od,.func fd,osl⟩∧PySem.W.codeIn K cdv qual=true
 kp:PySem.W.keepIn K (.ref f)=true
section
variable {P : Program} {w : World} {K : PySem.W.Frag} {mg : Str → Option Value} {base : Heap}
theorem Fun.ok {x qual:Str} {st:Stmt} {f:Addr} {fd:FuncData} {N ps:List Str} {k:Nat} {sp:Sp} (F:Fun K x qual st f fd) (S:FnScope N ps (zbK st)) (len:∀vs H Q E,sp vs H Q E→vs.length=ps.length)
  (hbody:∀(cdv:Value) (A:Around) (outer:List Env) (s:Shared) (H:Hp) (vs:List V) (Q:VK) (E:XK),Room k (A.deeper (envOfC qual (zbK st) s.heap.objs.size f cdv))→sp vs H Q E →
   ∃t,PSs (zqC CX0 P w K mg base N qual (zbK st) f cdv A outer s H E).nox (zfr st) t∧t { nx:=λ_ H'=>Q .non H',rt:=Q } (start N vs) H):FnOk P w K mg base CX0 (k + 1) f fd ps sp:=by
 obtain⟨oc,od,kV,doc,pm,an,cdv,ct,osl,rfl,lk,hcd⟩:=F.ex
 refine zr4 lk hcd S len λA outer s H vs Q E hr hsp=>?_
 obtain⟨t,h,q⟩:=hbody cdv A outer s H vs Q E hr hsp
 exact⟨t,h.nox,q⟩
theorem Fun.binds {x qual:Str} {st:Stmt} {f:Addr} {fd:FuncData} {ps:List Str} (F:Fun K x qual st f fd)
  (h:∀(kV doc pm:Value) (an:Option Addr) (cdv ct:Value) (us:List Value),us.length=ps.length→bindArgs (PySem.W.fnOf x qual (zgg st) (zfr st) (zbK st) .none kV doc pm an cdv ct) ⟨us,[]⟩=pure (ps.zip us)):Binds K fd ps []:=by
 obtain⟨oc,od,kV,doc,pm,an,cdv,ct,osl,rfl,lk,hcd⟩:=F.ex
 exact .all (h kV doc pm an cdv ct)
theorem zgs {x qual:Str} {st:Stmt} {f:Addr} {oc:Value} {od an:Option Addr} {osl:Array (Option Value)} {kV doc pm cdv ct:Value} (l:K.lookup f=some ⟨oc,od,.func (PySem.W.fnOf x qual (zgg st) (zfr st) (zbK st) .none kV doc pm an cdv ct),osl⟩)
  (c:PySem.W.codeIn K cdv qual=true) (k:PySem.W.keepIn K (.ref f)=true):Fun K x qual st f (PySem.W.fnOf x qual (zgg st) (zfr st) (zbK st) .none kV doc pm an cdv ct):=⟨⟨oc,od,kV,doc,pm,an,cdv,ct,osl,rfl,l,c⟩,k⟩
end
theorem zb8 {A:Around} {k:Nat} (hr:Room k A):A.units + 1 < cLine:=Nat.lt_of_le_of_lt (Nat.add_le_add_left (by decide:1≤64) _) hr.units
theorem zb0 {n:Nat} (h:n≤1000):n < sizeLine:=Nat.lt_of_le_of_lt h (by decide)
section
variable {X : Cx}
theorem pv (i:Nat) {x:Str} {pos:Pos} (hN:X.N[i]? = some x:=by rfl) (hv:Vis X.env.scope x:=by first | exact Or.inl rfl | exact Or.inr (Or.inl rfl) | exact Or.inr (Or.inr rfl)) (hd:(x == ("__debug__":Str))=false:=by decide)
  (hcd:(x == ("__classdict__":Str))=false:=by decide):PE X (.Name x pos) (tVar i):=zqY hN hv hd hcd
end
theorem zi7 {A B:Prop} (h:B):if false=true then A else B:=by
 rw[if_neg Bool.false_ne_true]
 exact h
theorem zgc {A B:Prop} (h:A):if true=true then A else B:=by
 rw[if_pos rfl]
 exact h
theorem zb9 {c A B:Prop} [Decidable c] (h1:c→A) (h2:¬c→B):if c then A else B:=by
 by_cases h:c
 ·rw[if_pos h]
  exact h1 h
 ·rw[if_neg h]
  exact h2 h
def Same (H H':Hp):Prop:=∀b o,H b=some o→H' b=some o
theorem Same.refl (H:Hp):Same H H:=λ_ _ h=>h
theorem Same.trans {H H1 H2:Hp} (a:Same H H1) (b:Same H1 H2):Same H H2:=λc o h=>b c o (a c o h)
theorem Same.free {H H':Hp} (e:Same H H') {l:Addr} (h:H' l=Option.none):H l=Option.none:=by
 cases q:H l with
 | none=>rfl
 | some o =>
  rw[e l o q] at h
  cases h
theorem Same.seq {K:PySem.W.Frag} {H H':Hp} {a:Addr} {xs:List V} (e:Same H H') (h:SqL K H a xs):SqL K H' a xs:=by
 rcases h with (h | ⟨o,h⟩) | h
 ·exact .inl (.inl (e _ _ h))
 ·exact .inl (.inr ⟨o,e _ _ h⟩)
 ·exact .inr h
section
variable {κ : Type} [DecidableEq κ]
theorem znm:∀{l:List κ} {k:κ},l.Nodup→¬k∈l→(l++[k]).Nodup
 | [],k,_,_=>by simp
 | a::r,k,h,hk=>by
  obtain⟨h1,h2⟩:=List.nodup_cons.mp h
  show (a::(r++[k])).Nodup
  refine List.nodup_cons.mpr ⟨λm=>?_,znm h2 λm=>hk (List.mem_cons.mpr (Or.inr m))⟩
  rcases List.mem_append.mp m with q | q
  ·exact h1 q
  ·exact hk (List.mem_cons.mpr (Or.inl (List.mem_singleton.mp q).symm))
end
theorem zrj {xs:List V} {z:Int} {j:Nat} {v:V} (e:z=(j:Int)) (h:xs[j]? = some v):atI xs z=some v:=by
 rw[e]
 exact zdi h
theorem zp5 {α:Type} {l:List α} (hN:l.Nodup) {i j:Nat} {x:α} (a:l[i]? = some x) (b:l[j]? = some x):i=j:=by
 obtain⟨h1,e1⟩:=List.getElem?_eq_some_iff.mp a
 obtain⟨h2,e2⟩:=List.getElem?_eq_some_iff.mp b
 exact (List.getElem_inj hN).mp (e1.trans e2.symm)
end L2
section
set_option Elab.async false
set_option maxRecDepth 100000
set_option maxHeartbeats 2000000
namespace L2
open PySem PySem.Spec PyProof.Rows
open PySem.W (WData Codec OpenSpec Well WellAll ReadsW ReadsAllW)
mutual
inductive Dw (K:PySem.W.Frag) (H:Hp):V→WData→Prop
 | non:Dw K H .non .none
 | bl (b:Bool):Dw K H (.bl b) (.bool b)
 | int (i:Int):Dw K H (.int i) (.int i)
 | str (x:Str):Dw K H (.str x) (.str x)
 | byt (b:Array UInt8):Dw K H (.byt b) (.bytes b.toList)
 | lst {a:Addr} {xs:List V} {ds:List WData}:SqL K H a xs→DwAll K H xs ds→Dw K H (.ref a) (.list ds)
 | tup {a:Addr} {xs:List V} {ds:List WData}:SqT K H a xs→DwAll K H xs ds→Dw K H (.ref a) (.tuple ds)
inductive DwAll (K:PySem.W.Frag) (H:Hp):List V→List WData→Prop
 | nil:DwAll K H [] []
 | cons {v:V} {vs:List V} {d:WData} {ds:List WData}:Dw K H v d→DwAll K H vs ds→DwAll K H (v::vs) (d::ds)
end
theorem znL {K:PySem.W.Frag} {H:Hp}:∀ns:List Int,DwAll K H (ns.map V.int) (ns.map WData.int)
 | []=>.nil
 | n::r=>.cons (.int n) (znL r)
theorem znz {K:PySem.W.Frag} {H:Hp}:∀(ns:List Int) (xs:List V),DwAll K H xs (ns.map WData.int)→xs=ns.map V.int
 | [],xs,h=>by
  cases h
  rfl
 | n::r,xs,h=>by
  cases h with
  | cons h1 h2 =>
   cases h1
   rw[znz r _ h2] <;> rfl
section
variable {P : Program} {w : World} {K : PySem.W.Frag} {H : Hp} {h : Heap} {R : PySem.W.WRecords} {cl : Str → Option Addr}
theorem zqQ {a:Addr} {xs:List V} (hok:HOk P w H h) (KX:K.In h) (q:SqL K H a xs):∃(its:List Value) (o:Obj) (n:Nat),Vals xs its∧h.get? a=some o∧o.cls=.type "list"∧o.data=.seq its.toArray n:=by
 rcases q with q | ⟨o,its,n,e,hc,_,hd,_,hv⟩
 ·obtain⟨_,its,n,hv,e⟩:=(show ObjOk P w H h a (.lst xs) from q.ok hok)
  exact⟨its,_,n,hv,e,rfl,rfl⟩
 ·exact⟨its.toList,o,n,hv,KX _ _ e,hc,by simp [hd]⟩
theorem zqP {a:Addr} {xs:List V} (hok:HOk P w H h) (KX:K.In h) (q:SqT K H a xs):∃(its:List Value) (o:Obj) (n:Nat),Vals xs its∧h.get? a=some o∧o.cls=.type "tuple"∧o.data=.seq its.toArray n:=by
 rcases q with q | ⟨o,its,n,e,hc,hd,_,hv⟩
 ·obtain⟨_,its,hv,o,e,hc,n,hd⟩:=(show ObjOk P w H h a (.tup xs) from q.ok hok)
  exact⟨its,o,n,hv,e,hc,hd⟩
 ·exact⟨its.toList,o,n,hv,KX _ _ e,hc,by simp [hd]⟩
mutual
theorem Dw.reads (hok:HOk P w H h) (KX:K.In h):∀(d:WData) (v:V) (u:Value),Dw K H v d→RelV v u→∃as,ReadsW R cl h u d as
 | .none,_,_,x,r=>by
  cases x
  cases r
  exact⟨_,ReadsW.none⟩
 | .bool b,_,_,x,r=>by
  cases x
  cases r
  exact⟨_,ReadsW.bool b⟩
 | .int i,_,_,x,r=>by
  cases x
  obtain⟨t,rfl⟩:=r
  exact⟨_,ReadsW.int i t⟩
 | .str s,_,_,x,r=>by
  cases x
  obtain⟨t,rfl⟩:=r
  exact⟨_,ReadsW.str s t⟩
 | .bytes b,_,_,x,r=>by
  cases x
  obtain⟨t,rfl⟩:=r
  exact⟨_,ReadsW.bytes _ t⟩
 | .list ds,_,_,x,r=>by
  cases x with
  | lst hs ha =>
   cases r
   obtain⟨its,o,n,rv,ho,hc,hd⟩:=zqQ hok KX hs
   obtain⟨as,hr⟩:=Dw.readsAll hok KX ds _ its ha rv
   exact⟨_,ReadsW.list ho hc hd hr⟩
 | .tuple ds,_,_,x,r=>by
  cases x with
  | tup hs ha =>
   cases r
   obtain⟨its,o,n,rv,ho,hc,hd⟩:=zqP hok KX hs
   obtain⟨as,hr⟩:=Dw.readsAll hok KX ds _ its ha rv
   exact⟨_,ReadsW.tuple ho hc hd hr⟩
 | .float _,_,_,x,_=>by cases x
 | .dict _,_,_,x,_=>by cases x
 | .bytearray _,_,_,x,_=>by cases x
 | .set _,_,_,x,_=>by cases x
 | .frozenset _,_,_,x,_=>by cases x
 | .obj _ _,_,_,x,_=>by cases x
theorem Dw.readsAll (hok:HOk P w H h) (KX:K.In h):∀(ds:List WData) (vs:List V) (us:List Value),DwAll K H vs ds→Vals vs us→∃as,ReadsAllW R cl h us ds as
 | [],_,_,x,r=>by
  cases x
  cases r
  exact⟨_,ReadsAllW.nil⟩
 | d::ds,_,_,x,r=>by
  cases x with
  | cons h1 h2 =>
   cases r with
   | cons r1 r2 =>
    obtain⟨as,q1⟩:=Dw.reads hok KX d _ _ h1 r1
    obtain⟨bs,q2⟩:=Dw.readsAll hok KX ds _ _ h2 r2
    exact⟨_,ReadsAllW.cons q1 q2⟩
end
end
mutual
def plW:WData→Bool
 | .none=>true
 | .bool _=>true
 | .int _=>true
 | .str _=>true
 | .bytes _=>true
 | .list xs=>zmn xs
 | .tuple xs=>zmn xs
 | _=>false
def zmn:List WData→Bool
 | []=>true
 | x::r=>plW x && zmn r
end
theorem zle {α:Type} {f:α→WData} (h:∀a,plW (f a)=true):∀l:List α,zmn (l.map f)=true
 | []=>rfl
 | x::r=>by
  show (plW (f x) && zmn (r.map f))=true
  rw[h x,zle h r] <;> rfl
theorem zgp:∀(c:Codec) (a:c.denote),plW (c.enc a)=true
 | .unit,_=>rfl
 | .bool,_=>rfl
 | .int _ _,_=>rfl
 | .nat _ _,_=>rfl
 | .u8,_=>rfl
 | .bytes _ _,_=>rfl
 | .text _ _ _ _,_=>rfl
 | .list _ _ c,a=>zle (λx=>zgp c x) a
 | .pair c d,a=>by
  show (plW (c.enc a.1) && (plW (d.enc a.2) && true))=true
  rw[zgp c a.1,zgp d a.2] <;> rfl
 | .triple c d e,a=>by
  show (plW (c.enc a.1) && (plW (d.enc a.2.1) && (plW (e.enc a.2.2) && true)))=true
  rw[zgp c a.1,zgp d a.2.1,zgp e a.2.2] <;> rfl
 | .option c,none=>rfl
 | .option c,some x=>zgp c x
theorem zjC:∀(cs:List Codec) (a:Codec.denoteAll cs),zmn (Codec.encAll cs a)=true
 | [],_=>rfl
 | c::cs,a=>by
  show (plW (c.enc a.1) && zmn (Codec.encAll cs a.2))=true
  rw[zgp c a.1,zjC cs a.2] <;> rfl
theorem zfW:∀{xs:List WData} {d:WData},d∈xs→d.weight≤WData.weightAll xs
 | [],d,h=>absurd h (by simp)
 | x::r,d,h=>by
  show d.weight≤x.weight + 1 + WData.weightAll r
  rcases List.mem_cons.mp h with e | m
  ·rw[e]
   omega
  ·have z:=zfW m
   omega
def toV:Value→V
 | .none=>.non
 | .bool b=>.bl b
 | .int i _=>.int i
 | .str x _=>.str x
 | .bytes b _=>.byt b
 | .ref a=>.ref a
 | _=>.non
def OkU (A:List Addr):Value→Prop
 | .none=>True
 | .bool _=>True
 | .int _ _=>True
 | .str _ _=>True
 | .bytes _ _=>True
 | .ref a=>a∈A
 | _=>False
theorem OkU.mono {A B:List Addr} (h:∀a∈A,a∈B):∀{u:Value},OkU A u→OkU B u:=λ{u} x=>by
 cases u with
 | ref a=>exact h a x
 | none=>trivial
 | bool b=>trivial
 | int i t=>trivial
 | str s t=>trivial
 | bytes b t=>trivial
 | _=>exact False.elim x
theorem zol {A:List Addr} {u:Value} (x:OkU A u):RelV (toV u) u:=by
 cases u with
 | ref a=>rfl
 | none=>rfl
 | bool b=>rfl
 | int i t=>exact⟨t,rfl⟩
 | str s t=>exact⟨t,rfl⟩
 | bytes b t=>exact⟨t,rfl⟩
 | _=>exact False.elim x
theorem zeW {A:List Addr}:∀{vs:List Value},(∀u∈vs,OkU A u)→Vals (vs.map toV) vs
 | [],_=>.nil
 | u::r,h=>.cons (zol (h u (List.mem_cons_self ..))) (zeW λx hx=>h x (List.mem_cons_of_mem _ hx))
def ArgOb (h:Heap) (A:List Addr) (a:Addr):Prop:=∃vs:List Value,vs.length≤sizeLine∧(∀u∈vs,OkU A u) ∧
 (h.get? a=some { cls:=.type "list",data:=.seq vs.toArray }∨h.get? a=some { cls:=.type "tuple",data:=.seq vs.toArray })
theorem ArgOb.mono {h:Heap} {A B:List Addr} {a:Addr} (k:∀a∈A,a∈B) (x:ArgOb h A a):ArgOb h B a:=by
 obtain⟨vs,h1,h2,h3⟩:=x
 exact⟨vs,h1,λu hu=>(h2 u hu).mono k,h3⟩
theorem zdT {P:Params} {h:Heap}:∀{vs:List Value} {ds:List WData},WellAll P h vs ds→vs.length=ds.length
 | _,_,.nil=>rfl
 | _,_,.cons _ b=>by
  show _ + 1=_ + 1
  rw[zdT b]
theorem zjn {P:Params} {h:Heap} {v:Value} {ds:List WData} (x:Well P h v (.list ds)):∃(a:Addr) (vs:List Value),v=.ref a∧h.get? a=some { cls:=.type "list",data:=.seq vs.toArray }∧WellAll P h vs ds:=by
 cases x with
 | list ho hall=>exact⟨_,_,rfl,ho,hall⟩
theorem zh2 {P:Params} {h:Heap} {v:Value} {ds:List WData} (x:Well P h v (.tuple ds)):∃(a:Addr) (vs:List Value),v=.ref a∧h.get? a=some { cls:=.type "tuple",data:=.seq vs.toArray }∧WellAll P h vs ds:=by
 cases x with
 | tuple ho hall=>exact⟨_,_,rfl,ho,hall⟩
theorem zjo {P:Params} {h:Heap} {us:List Value} {d:WData} {ds:List WData} (x:WellAll P h us (d::ds)):∃(v:Value) (vs:List Value),us=v::vs∧Well P h v d∧WellAll P h vs ds:=by
 cases x with
 | cons a b=>exact⟨_,_,rfl,a,b⟩
theorem znr {n:Nat} (h:n≤1048576):n≤sizeLine:=Nat.le_trans h (by decide)
section
variable {P : Params} {h : Heap}
mutual
theorem zo5:∀(d:WData) (v:Value),Well P h v d→plW d=true→d.weight≤1048576→∃A:List Addr,OkU A v∧∀a∈A,ArgOb h A a
 | .none,_,x,_,_=>by
  cases x
  exact⟨[],trivial,λa m=>absurd m (by simp)⟩
 | .bool b,_,x,_,_=>by
  cases x
  exact⟨[],trivial,λa m=>absurd m (by simp)⟩
 | .int i,_,x,_,_=>by
  cases x
  exact⟨[],trivial,λa m=>absurd m (by simp)⟩
 | .str s,_,x,_,_=>by
  cases x
  exact⟨[],trivial,λa m=>absurd m (by simp)⟩
 | .bytes b,_,x,_,_=>by
  cases x
  exact⟨[],trivial,λa m=>absurd m (by simp)⟩
 | .list ds,_,x,p,z=>by
  obtain⟨a,vs,rfl,ho,hall⟩:=zjn x
  have z2:WData.weightAll ds≤1048576:=z
  obtain⟨A,h1,h2⟩:=zgO ds _ hall p λd hd=>Nat.le_trans (zfW hd) z2
  have k:∀b∈A,b∈a::A:=λb hb=>List.mem_cons_of_mem _ hb
  refine⟨a::A,List.mem_cons_self ..,λb hb=>?_⟩
  rcases List.mem_cons.mp hb with e | m
  ·rw[e]
   exact⟨vs,znr (by rw[zdT hall];exact Nat.le_trans (PySem.W.length_le_weightAllW ds) z2),λu hu=>(h1 u hu).mono k,.inl ho⟩
  ·exact (h2 b m).mono k
 | .tuple ds,_,x,p,z=>by
  obtain⟨a,vs,rfl,ho,hall⟩:=zh2 x
  have z2:WData.weightAll ds≤1048576:=z
  obtain⟨A,h1,h2⟩:=zgO ds _ hall p λd hd=>Nat.le_trans (zfW hd) z2
  have k:∀b∈A,b∈a::A:=λb hb=>List.mem_cons_of_mem _ hb
  refine⟨a::A,List.mem_cons_self ..,λb hb=>?_⟩
  rcases List.mem_cons.mp hb with e | m
  ·rw[e]
   exact⟨vs,znr (by rw[zdT hall];exact Nat.le_trans (PySem.W.length_le_weightAllW ds) z2),λu hu=>(h1 u hu).mono k,.inr ho⟩
  ·exact (h2 b m).mono k
 | .float _,_,_,p,_=>Bool.noConfusion (show false=true from p)
 | .dict _,_,_,p,_=>Bool.noConfusion (show false=true from p)
 | .bytearray _,_,_,p,_=>Bool.noConfusion (show false=true from p)
 | .set _,_,_,p,_=>Bool.noConfusion (show false=true from p)
 | .frozenset _,_,_,p,_=>Bool.noConfusion (show false=true from p)
 | .obj _ _,_,_,p,_=>Bool.noConfusion (show false=true from p)
theorem zgO:∀(ds:List WData) (vs:List Value),WellAll P h vs ds→zmn ds=true→(∀d∈ds,d.weight≤1048576)→∃A:List Addr,(∀u∈vs,OkU A u)∧∀a∈A,ArgOb h A a
 | [],_,x,_,_=>by
  cases x
  exact⟨[],λu m=>absurd m (by simp),λa m=>absurd m (by simp)⟩
 | d::ds,_,x,p,z=>by
  obtain⟨v,vs,rfl,x1,x2⟩:=zjo x
  have q:plW d=true∧zmn ds=true:=Bool.and_eq_true_iff.mp p
  obtain⟨A,a1,a2⟩:=zo5 d v x1 q.1 (z d (List.mem_cons_self ..))
  obtain⟨B,b1,b2⟩:=zgO ds vs x2 q.2 λe he=>z e (List.mem_cons_of_mem _ he)
  have kA:∀b∈A,b∈A++B:=λb hb=>List.mem_append.mpr (.inl hb)
  have kB:∀b∈B,b∈A++B:=λb hb=>List.mem_append.mpr (.inr hb)
  refine⟨A++B,λu hu=>?_,λb hb=>?_⟩
  ·rcases List.mem_cons.mp hu with e | m
   ·rw[e]
    exact a1.mono kA
   ·exact (b1 u m).mono kB
  ·rcases List.mem_append.mp hb with m | m
   ·exact (a2 b m).mono kA
   ·exact (b2 b m).mono kB
end
end
def zrs (o:Obj):Option HO:=match o.data with
 | .seq vs _=>if (o.cls == Value.type "list")=true then some (.frz o (.lst (vs.toList.map toV))) else some (.frz o (.tup (vs.toList.map toV)))
 | _=>none
def zjf (K:PySem.W.Frag) (h:Heap) (A:List Addr):Hp:=λb=>if b∈A then (if (K.lookup b).isNone=true then (h.get? b).bind zrs else none) else none
def zn1 (H:Hp):Prop:=∀b,H b=none∨∃o u,H b=some (.frz o u)
theorem zlr (vs:List Value):zrs { cls:=.type "list",data:=.seq vs.toArray }=some (.frz { cls:=.type "list",data:=.seq vs.toArray } (.lst (vs.map toV))):=by
 show (if (Value.type "list" == Value.type "list")=true then some (HO.frz { cls:=.type "list",data:=.seq vs.toArray } (.lst (vs.toArray.toList.map toV))) else some (HO.frz { cls:=.type "list",data:=.seq vs.toArray } (.tup (vs.toArray.toList.map toV))))=_
 rw[if_pos (beq_self_eq_true _)]
theorem zlq (vs:List Value):zrs { cls:=.type "tuple",data:=.seq vs.toArray }=some (.frz { cls:=.type "tuple",data:=.seq vs.toArray } (.tup (vs.map toV))):=by
 show (if (Value.type "tuple" == Value.type "list")=true then some (HO.frz { cls:=.type "tuple",data:=.seq vs.toArray } (.lst (vs.toArray.toList.map toV))) else some (HO.frz { cls:=.type "tuple",data:=.seq vs.toArray } (.tup (vs.toArray.toList.map toV))))=_
 rw[if_neg (by decide)]
section
variable {P : Program} {w : World} {K : PySem.W.Frag} {h : Heap} {A : List Addr}
theorem zje {b:Addr} {o:Obj} (hb:b∈A) (hk:K.lookup b=none) (e:h.get? b=some o):zjf K h A b=zrs o:=by
 unfold zjf
 rw[if_pos hb,hk,if_pos (show (none:Option Obj).isNone=true from rfl),e] <;> rfl
theorem zp4 {b:Addr} {u:HO} (q:zjf K h A b=some u):b∈A∧K.lookup b=none:=by
 unfold zjf at q
 by_cases hb:b∈A
 ·rw[if_pos hb] at q
  cases hk:K.lookup b with
  | none=>exact⟨hb,rfl⟩
  | some o =>
   rw[hk,if_neg (by simp)] at q
   cases q
 ·rw[if_neg hb] at q
  cases q
theorem zjd (ar:∀a∈A,ArgOb h A a) {b:Addr} {u:HO} (q:zjf K h A b=some u):K.lookup b=none∧∃vs:List Value,vs.length≤sizeLine∧(∀u∈vs,OkU A u) ∧
    ((h.get? b=some { cls:=.type "list",data:=.seq vs.toArray }∧u=.frz { cls:=.type "list",data:=.seq vs.toArray } (.lst (vs.map toV))) ∨
     (h.get? b=some { cls:=.type "tuple",data:=.seq vs.toArray }∧u=.frz { cls:=.type "tuple",data:=.seq vs.toArray } (.tup (vs.map toV)))):=by
  obtain⟨hb,hk⟩:=zp4 q
  obtain⟨vs,h1,h2,h3⟩:=ar b hb
  refine⟨hk,vs,h1,h2,?_⟩
  rcases h3 with e | e
  · rw[zje hb hk e,zlr] at q
    exact .inl ⟨e,(Option.some.inj q).symm⟩
  · rw[zje hb hk e,zlq] at q
    exact .inr ⟨e,(Option.some.inj q).symm⟩
theorem znX (ar:∀a∈A,ArgOb h A a):zn1 (zjf K h A):=λb=>by
 cases q:zjf K h A b with
 | none=>exact .inl rfl
 | some u =>
  obtain⟨_,vs,_,_,⟨_,e⟩ | ⟨_,e⟩⟩:=zjd ar q
  ·exact .inr ⟨_,_,by rw[e]⟩
  ·exact .inr ⟨_,_,by rw[e]⟩
theorem zqn (ar:∀a∈A,ArgOb h A a):HOk P w (zjf K h A) h:=λb u q=>by
 obtain⟨_,vs,h1,h2,⟨e,rfl⟩ | ⟨e,rfl⟩⟩:=zjd ar q
 ·exact⟨e,by rw[List.length_map];exact h1,vs,_,zeW h2,e⟩
 ·exact⟨e,by rw[List.length_map];exact h1,vs,zeW h2,_,e,rfl,_,rfl⟩
theorem ziF {c c':Value} {vs us:List Value} (e:(some { cls:=c,data:=.seq vs.toArray }:Option Obj)=some { cls:=c',data:=.seq us.toArray }):c=c'∧vs=us:=by
 have e1:=Option.some.inj e
 have e2:c=c':=congrArg Obj.cls e1
 have e3:Data.seq vs.toArray=Data.seq us.toArray:=congrArg Obj.data e1
 injection e3 with e4
 refine⟨e2,?_⟩
 have e5:=congrArg Array.toList e4
 simpa using e5
theorem argL (KX:K.In h) (ar:∀a∈A,ArgOb h A a) {a:Addr} {vs:List Value} (ha:a∈A) (e:h.get? a=some { cls:=.type "list",data:=.seq vs.toArray }):(∀u∈vs,OkU A u)∧SqL K (zjf K h A) a (vs.map toV):=by
 obtain⟨us,h1,h2,h3⟩:=ar a ha
 have hu:us=vs:=by
  rcases h3 with q | q
  ·rw[e] at q
   exact (ziF q).2.symm
  ·rw[e] at q
   exact absurd (Value.type.inj (ziF q).1) (by decide)
 subst hu
 refine⟨h2,?_⟩
 cases hk:K.lookup a with
 | none=>exact .inl (.inr ⟨_,by rw[zje ha hk e,zlr]⟩)
 | some o =>
  have e2:=KX a o hk
  rw[e] at e2
  obtain rfl:=Option.some.inj e2
  exact .inr ⟨_,us.toArray,_,hk,rfl,rfl,rfl,by rw[List.size_toArray];exact h1,by simpa using zeW h2⟩
theorem argT (KX:K.In h) (ar:∀a∈A,ArgOb h A a) {a:Addr} {vs:List Value} (ha:a∈A) (e:h.get? a=some { cls:=.type "tuple",data:=.seq vs.toArray }):(∀u∈vs,OkU A u)∧SqT K (zjf K h A) a (vs.map toV):=by
 obtain⟨us,h1,h2,h3⟩:=ar a ha
 have hu:us=vs:=by
  rcases h3 with q | q
  ·rw[e] at q
   exact absurd (Value.type.inj (ziF q).1) (by decide)
  ·rw[e] at q
   exact (ziF q).2.symm
 subst hu
 refine⟨h2,?_⟩
 cases hk:K.lookup a with
 | none=>exact .inl (.inr ⟨_,by rw[zje ha hk e,zlq]⟩)
 | some o =>
  have e2:=KX a o hk
  rw[e] at e2
  obtain rfl:=Option.some.inj e2
  exact .inr ⟨_,us.toArray,_,hk,rfl,rfl,by rw[List.size_toArray];exact h1,by simpa using zeW h2⟩
mutual
theorem zrg {Pm:Params} (KX:K.In h) (ar:∀a∈A,ArgOb h A a):∀(d:WData) (v:Value),Well Pm h v d→plW d=true→OkU A v→Dw K (zjf K h A) (toV v) d
 | .none,_,x,_,_=>by
  cases x
  exact .non
 | .bool b,_,x,_,_=>by
  cases x
  exact .bl b
 | .int i,_,x,_,_=>by
  cases x
  exact .int i
 | .str s,_,x,_,_=>by
  cases x
  exact .str s
 | .bytes b,_,x,_,_=>by
  cases x
  have z:=Dw.byt (K:=K) (H:=zjf K h A) b.toArray
  exact z
 | .list ds,_,x,p,hu=>by
  obtain⟨a,vs,rfl,ho,hall⟩:=zjn x
  obtain⟨h2,hs⟩:=argL KX ar hu ho
  exact .lst hs (zlw KX ar ds _ hall p h2)
 | .tuple ds,_,x,p,hu=>by
  obtain⟨a,vs,rfl,ho,hall⟩:=zh2 x
  obtain⟨h2,hs⟩:=argT KX ar hu ho
  exact .tup hs (zlw KX ar ds _ hall p h2)
 | .float _,_,_,p,_=>Bool.noConfusion (show false=true from p)
 | .dict _,_,_,p,_=>Bool.noConfusion (show false=true from p)
 | .bytearray _,_,_,p,_=>Bool.noConfusion (show false=true from p)
 | .set _,_,_,p,_=>Bool.noConfusion (show false=true from p)
 | .frozenset _,_,_,p,_=>Bool.noConfusion (show false=true from p)
 | .obj _ _,_,_,p,_=>Bool.noConfusion (show false=true from p)
theorem zlw {Pm:Params} (KX:K.In h) (ar:∀a∈A,ArgOb h A a):∀(ds:List WData) (vs:List Value),WellAll Pm h vs ds→zmn ds=true→(∀u∈vs,OkU A u)→DwAll K (zjf K h A) (vs.map toV) ds
 | [],_,x,_,_=>by
  cases x
  exact .nil
 | d::ds,_,x,p,hu=>by
  obtain⟨v,vs,rfl,x1,x2⟩:=zjo x
  have q:plW d=true∧zmn ds=true:=Bool.and_eq_true_iff.mp p
  exact .cons (zrg KX ar d v x1 q.1 (hu _ (List.mem_cons_self ..))) (zlw KX ar ds vs x2 q.2 λu m=>hu u (List.mem_cons_of_mem _ m))
end
end
theorem zmD {P:Program} {w:World} {K:PySem.W.Frag} {mg mb:Str→Option Value} {CX:CXT} {k:Nat} {fa:Addr} {fd:FuncData} {ps:List Str} {sp:Sp} {s₁:Shared} {vals:List Value} {ds:List WData} {R:PySem.W.WRecords} {cl:Str→Option Addr} {d0:WData}
  (KX:K.In s₁.heap) (hns:s₁.heap.Ns mainGlobals mg) (hb:s₁.heap.Ns builtinsNs mb) (hbb:∀x:Str,x≠"__name__"→mb x=bootBuiltins x) (hlim:s₁.heap.NoLimit) (hg:s₁.gens=#[])
  (hwl:WellAll w.params s₁.heap vals ds) (hpl:zmn ds=true) (hwt:∀d∈ds,d.weight≤1048576) (hr:Room k callerA)
  (F:∀base:Heap,K.In base→base.Ns mainGlobals mg→FnOk P w K mg base CX k fa fd ps sp) (hbind:∀(s:Shared) (us:List Value),us.length=ps.length→BindsTo s fd ⟨us,[]⟩ (ps.zip us)) (hlen:ds.length=ps.length)
  (hsp:∀(H:Hp) (xs:List V),zn1 H→DwAll K H xs ds→sp xs H (λv H'=>Dw K H' v d0) λ_ _ _=>False)
  (hCX:∀H e s',CX [] H s₁ (λ_ _ _=>False) e s'→False) :
  codeAny (model P w) callerA (.call (.ref fa) ⟨vals,[]⟩) (λr s'=>∃u as,r=.ok (.ret u)∧ReadsW R cl s'.heap u d0 as∧OldK s₁.heap s'.heap∧s'.os=s₁.os∧AllBare s'.gens) s₁:=by
 obtain⟨A,ho,ar⟩:=zgO ds vals hwl hpl hwt
 have hO:zn1 (zjf K s₁.heap A):=znX ar
 have hok:HOk P w (zjf K s₁.heap A) s₁.heap:=zqn ar
 have hS:=zlw KX ar ds vals hwl hpl ho
 have hV:=zeW ho
 have hK:∀b u,zjf K s₁.heap A b=some u→K.lookup b=none:=λb u q=>(zjd ar q).1
 have noA:∀{b:Addr} {o:Obj} {es:Array DictEntry} {ep:Nat},s₁.heap.get? b=some o→o.data=.dict es ep→zjf K s₁.heap A b=none:=λ{b o es ep} e d=>by
  cases q:zjf K s₁.heap A b with
  | none=>rfl
  | some u =>
   obtain⟨_,vs,_,_,⟨e2,_⟩ | ⟨e2,_⟩⟩:=zjd ar q
   ·rw[e2] at e
    cases e
    have d':Data.seq vs.toArray _=Data.dict es ep:=d
    cases d'
   ·rw[e2] at e
    cases e
    have d':Data.seq vs.toArray _=Data.dict es ep:=d
    cases d'
 generalize zjf K s₁.heap A=H at hO hok hS hK noA
 have base_of:∀{b:Addr} {o:Obj},s₁.heap.get? b=some o→H b=none→(zoX s₁.heap H).get? b=some o:=λe n=>zoW e n
 have nsK:∀{b:Addr} {m:Str→Option Value},s₁.heap.Ns b m→(zoX s₁.heap H).Ns b m:=λ{b m} ⟨o,es,ep,e,d,r⟩=>⟨o,es,ep,base_of e (noA e d),d,r⟩
 have nK:∀b o,K.lookup b=some o→H b=none:=λb o e=>by
  cases q:H b with
  | none=>rfl
  | some u =>
   rw[hK b u q] at e
   cases e
 have hKb:K.In (zoX s₁.heap H):=λb o e=>base_of (KX b o e) (nK b o e)
 have hM:Mod K mg (zoX s₁.heap H):=⟨hKb,nsK hns,⟨mb,nsK hb,hbb⟩,let ⟨mc,h1,h2⟩:=hlim;⟨mc,nsK h1,h2⟩⟩
 have e0:Env0 P w K mg (zoX s₁.heap H) callerA [] s₁ H:=⟨rfl,hM,λb o e=>zp3 e,Nat.le_of_eq (znA _ _),trivial,λb hb=>absurd (show b∈([]:List Addr) from hb) (by simp),hok,.of_eq hg⟩
 have hl:vals.length=ps.length:=by rw[zdT hwl];exact hlen
 refine codeAny_mono ((F _ hKb (nsK hns)).run callerA [] s₁ H ⟨vals,[]⟩ vals (vals.map toV) _ _ hr e0 (hbind s₁ vals hl) hV (hsp H _ hO hS)) λr s' x=>?_
 cases r with
 | error e=>exact (hCX H e s' x).elim
 | ok fl =>
  cases fl with
  | next=>exact False.elim x
  | brk=>exact False.elim x
  | cont=>exact False.elim x
  | ret u =>
   obtain⟨v,H',os,bare,un,hok',r',q⟩:=x
   have kept:∀b o,s₁.heap.get? b=some o→s'.heap.get? b=some o:=λb o e=>by
    cases q2:H b with
    | none=>exact un.keep b o e q2 (by intro z;exact absurd (show b∈([]:List Addr) from z) (by simp)) (by simp)
    | some u2 =>
     rcases hO b with z | ⟨ob,u3,z⟩
     ·rw[q2] at z
      cases z
     ·have z2:=un.frzs b ob _ z
      obtain⟨e1,_⟩:=hok b _ z
      obtain⟨e2,_⟩:=hok' b _ z2
      rw[e] at e1
      cases e1
      exact e2
   have KX':K.In s'.heap:=λb o e=>kept b o (KX b o e)
   obtain⟨as,hrd⟩:=Dw.reads (R:=R) (cl:=cl) hok' KX' d0 v u q r'
   exact⟨u,as,rfl,hrd,OldK.of_keep kept,os,bare⟩
theorem zhY {ds:List WData} (h:WData.layableAll ds=true):∀d∈ds,d.weight≤1048576:=λd hd =>
 (PySem.W.layableW_iff.mp (List.all_eq_true.mp h d hd)).2.2
theorem zij:∀(cs:List Codec) (a:Codec.denoteAll cs),(Codec.encAll cs a).length=cs.length
 | [],_=>rfl
 | c::cs,a=>by
  show (Codec.encAll cs a.2).length + 1=cs.length + 1
  rw[zij cs a.2]
theorem zmq {r:OpenSpec} {k:Nat} {q:Program} {loose:List Str} {XP:(Str→Option Value)→Heap→Prop} {YP:World→Heap→Prop} {d:DefRec} {K:Params→PySem.W.Frag} {CX:World→CXT} {ps:List Str} {sp:World→Sp}
  (hwell:r.wellSaid=true) (hdf:d.params.defaults=[]) (hlen:r.args.length=ps.length) (hr:Room k callerA)
  (hY:∀(w:World) (h:Heap),YP w h→(K w.params).In h)
  (F:∀(w:World) (mg:Str→Option Value) (fa:Addr) (h:Heap),YP w h→(K w.params).In h→h.Ns mainGlobals mg→mg d.name=some (.ref fa) →
   ∃fd:FuncData,(∀(s:Shared) (us:List Value),us.length=ps.length→BindsTo s fd ⟨us,[]⟩ (ps.zip us)) ∧
    ∀base:Heap,(K w.params).In base→base.Ns mainGlobals mg→FnOk r.prog w (K w.params) mg base (CX w) k fa fd ps (sp w))
  (hsp:∀(w:World) (H:Hp) (xs:List V) (a:Codec.denoteAll r.args),zn1 H→Codec.withinAll r.args a=true→Codec.app r.args r.asked a=true→DwAll (K w.params) H xs (Codec.encAll r.args a) →
   sp w xs H (λv H'=>Dw (K w.params) H' v (r.ret.enc (Codec.app r.args r.f a))) λ_ _ _=>False)
  (hCX:∀(w:World) (H:Hp) (s:Shared) (e:Value) (s':Shared),CX w [] H s (λ_ _ _=>False) e s'→False) :
  PySem.W.WalkOS q loose XP YP r d [] (λf vs=>PySem.call f vs):=by
 intro w s_0 s₁ mg mb G Y fa o pm cd doc dV kV ho hd hcd hD hmg hg args vals as hpre hlay hrd hwl hlo
 obtain⟨a,e1,e2⟩:=PySem.W.os_pre_some hpre
 obtain⟨e3,hwi⟩:=Codec.encAll_of_decAll r.args args a e1
 subst e3
 have KX:=hY w _ Y
 obtain⟨fd,hb,hF⟩:=F w mg fa _ Y KX G.T.g hmg
 refine PySem.W.enter_call (codeAny_mono (zmD (R:=[]) (cl:=classAt s_0.heap) (d0:=r.ret.enc (Codec.app r.args r.f a)) KX G.T.g G.T.b G.T.builtins G.T.nolimit hg hwl (zjC _ _) (zhY hlay) hr hF hb (by rw[zij];exact hlen)
  (λH xs hO hS=>hsp w H xs a hO hwi e2 hS) λH e s'=>hCX w H s₁ e s') λr' s' hq=>?_)
 obtain⟨u,as',rfl,h1,h2,h3,h4⟩:=hq
 exact⟨.inl ⟨u,_,as',rfl,λ_=>rfl,h1,(OpenSpec.post_iff hwell hwi _ _).mpr rfl,λz=>Bool.noConfusion (show false=true from z)⟩,h2,h3,h4⟩
theorem zlJ {r:OpenSpec} {k:Nat} {q:Program} {loose:List Str} {XP:(Str→Option Value)→Heap→Prop} {YP:World→Heap→Prop} {d:DefRec} {K:Params→PySem.W.Frag} {CX:CXT} {ps:List Str} {sp:PySem.W.Frag→Sp}
  (hwell:r.wellSaid=true) (hdf:d.params.defaults=[]) (hlen:r.args.length=ps.length) (hr:Room k callerA)
  (hY:∀(w:World) (h:Heap),YP w h→(K w.params).In h)
  (F:∀(w:World) (mg:Str→Option Value) (fa:Addr) (h:Heap),YP w h→(K w.params).In h→h.Ns mainGlobals mg→mg d.name=some (.ref fa) →
   ∃fd:FuncData,(∀(s:Shared) (us:List Value),us.length=ps.length→BindsTo s fd ⟨us,[]⟩ (ps.zip us)) ∧
    ∀base:Heap,(K w.params).In base→base.Ns mainGlobals mg→FnOk r.prog w (K w.params) mg base CX k fa fd ps (sp (K w.params)))
  (hsp:∀(K:PySem.W.Frag) (H:Hp) (xs:List V) (a:Codec.denoteAll r.args),zn1 H→Codec.withinAll r.args a=true→Codec.app r.args r.asked a=true→DwAll K H xs (Codec.encAll r.args a) →
   sp K xs H (λv H'=>Dw K H' v (r.ret.enc (Codec.app r.args r.f a))) λ_ _ _=>False)
  (hCX:∀(H:Hp) (s:Shared) (e:Value) (s':Shared),CX [] H s (λ_ _ _=>False) e s'→False) :
  PySem.W.WalkOS q loose XP YP r d [] (λf vs=>PySem.call f vs) :=
 zmq (K:=K) (CX:=λ_=>CX) (sp:=λw=>sp (K w.params)) hwell hdf hlen hr hY F (λw H xs a h1 h2 h3 h4=>hsp (K w.params) H xs a h1 h2 h3 h4) λ_ H s e s'=>hCX H s e s'
end L2
end
namespace L2
open PySem PySem.Spec PyProof.Rows
structure FnI (P:Program) (w:World) (K:PySem.W.Frag) (mg:Str→Option Value) (base:Heap) (x:Str) (k:Nat) (ps:List Str) (sp:Sp):Prop where
 ex:∃(f:Addr) (fd:FuncData),FnOk P w K mg base CX0 k f fd ps sp∧mg x=some (.ref f)∧PySem.W.keepIn K (.ref f)=true∧Binds K fd ps []
structure MtI (P:Program) (w:World) (K:PySem.W.Frag) (mg:Str→Option Value) (base:Heap) (C:Addr) (m:Str) (k:Nat) (ps:List Str) (sp:Sp):Prop where
 ex:∃(f:Addr) (fd:FuncData),FnOk P w K mg base CX0 k f fd ps sp∧Cls K C∧Meth K C m f∧Binds K fd ps []
structure MkI (P:Program) (w:World) (K:PySem.W.Frag) (mg:Str→Option Value) (base:Heap) (x:Str) (C:Addr) (k:Nat) (ps:List Str) (sp:Sp):Prop where
 ex:∃(f:Addr) (fd:FuncData),FnOk P w K mg base CX0 k f fd ps sp∧mg x=some (.ref C)∧Mk K C f∧Binds K fd ps []
section
variable {X : Cx} {k : Nat} {C : Addr} {ps : List Str} {sp : Sp} {x m : Str} {p pos apos : Pos} {e o : Expr} {es : List Expr} {ta : TE} {t : TA}
theorem zbH (F:FnI X.prog X.w X.K X.mg X.base x k ps sp) (hr:Room k X.A) (hg:Gl X x) (ha:PA X (e::es) t) (hdb:(x == ("__debug__":Str))=false:=by decide)
  (he:starEach (e::es) X.env=(false,eval e X.env)::starEach es X.env:=by rfl) (hpl:(backTo pos (starEach es X.env)).any (·.1)=false:=by rfl):PE X (.Call (.Name x p) (e::es) [] pos) (zqN sp [] E0 t):=by
 obtain⟨f,fd,a,b,c,d⟩:=F.ex
 exact zpU a hr hg b c d .nil zm5 ha hdb he hpl
theorem zcI (F:MkI X.prog X.w X.K X.mg X.base x C k ps sp) (hr:Room (k + 1) X.A) (hg:Gl X x) (ha:PA X (e::es) t) (hdb:(x == ("__debug__":Str))=false:=by decide)
  (he:starEach (e::es) X.env=(false,eval e X.env)::starEach es X.env:=by rfl) (hpl:(backTo pos (starEach es X.env)).any (·.1)=false:=by rfl):PE X (.Call (.Name x p) (e::es) [] pos) (zoh C sp [] E0 t):=by
 obtain⟨f,fd,a,b,c,d⟩:=F.ex
 exact zpS c a hr hg b d .nil zm5 ha hdb he hpl
theorem zm1 (F:MkI X.prog X.w X.K X.mg X.base x C k ps sp) (hr:Room (k + 1) X.A) (hg:Gl X x) (hdb:(x == ("__debug__":Str))=false:=by decide):PE X (.Call (.Name x p) [] [] pos) (zoh C sp [] E0 zqz):=by
 obtain⟨f,fd,a,b,c,d⟩:=F.ex
 exact zor c a hr hg b d .nil zm5 hdb
theorem zch {pl:Sem Bool} (F:MtI X.prog X.w X.K X.mg X.base C m k ps sp) (hr:Room k X.A) (he:PE X o ta) (ha:PA X (e::es) t)
  (hst:starEach (e::es) X.env=(false,eval e X.env)::starEach es X.env:=by rfl) (hpl:(backTo pos (starEach es X.env)).any (·.1)=false:=by rfl)
  (ht:eval (.Call (.Attribute o m apos) (e::es) [] pos) X.env=(do
   let ov ←eval o X.env
   standAt apos.atName
   let (f,first) ←holding [ov] (getMethod ov m pl)
   callWith pos f first (backTo pos (starEach (e::es) X.env)) (backToKw pos (keywordEach [] X.env))):=by rfl) :
  PE X (.Call (.Attribute o m apos) (e::es) [] pos) (zog C m sp [] E0 ta t):=by
 obtain⟨f,fd,a,b,c,d⟩:=F.ex
 exact zpR he b c a hr d .nil zm5 ha hst hpl ht
theorem zm0 {pl:Sem Bool} (F:MtI X.prog X.w X.K X.mg X.base C m k ps sp) (hr:Room k X.A) (he:PE X o ta)
  (ht:eval (.Call (.Attribute o m apos) [] [] pos) X.env=(do
   let ov ←eval o X.env
   standAt apos.atName
   let (f,first) ←holding [ov] (getMethod ov m pl)
   callWith pos f first (backTo pos (starEach [] X.env)) (backToKw pos (keywordEach [] X.env))):=by rfl) :
  PE X (.Call (.Attribute o m apos) [] [] pos) (zog C m sp [] E0 ta zqz):=by
 obtain⟨f,fd,a,b,c,d⟩:=F.ex
 exact zoq he b c a hr d .nil zm5 ht
theorem zb6 {n:Int} (h:∃t,X.mg x=some (.int n t)) (hg:Gl X x) (hd:(x == ("__debug__":Str))=false:=by decide):PE X (.Name x p) (tC (.int n)):=by
 obtain⟨t,h⟩:=h
 exact zm3 hg h ⟨t,rfl⟩ hd
theorem zkA {a:Addr} (h:X.mg x=some (.ref a)) (hg:Gl X x) (hd:(x == ("__debug__":Str))=false:=by decide):PE X (.Name x p) (tC (.ref a)):=zm3 hg h rfl hd
end
section
variable {X : Cx} {pos : Pos} {Kf : PySem.W.Frag}
theorem zeE (hK:X.K=Kf) {es:List Expr} {k:Nat} {t:TGs} {n:Nat} (hc:X.calm=true) (h:PGs X es t)
  (hn:(assignEach es X.env).length=n:=by rfl) (hst:(assignEach es X.env).findIdx? (·.1)=none:=by rfl):PG X (.Tuple es k pos) (zqc Kf n t):=by
 subst hK
 exact zpu hc h hn hst
theorem zkB (hK:X.K=Kf) {e:Expr} {f:Str} {ta:TE} (he:PE X e ta) (hb:attributeBase e f X.env (eval e X.env)=eval e X.env):PE X (.Attribute e f pos) (tFld Kf ta f):=by
 subst hK
 exact zbE he hb
end
theorem zpH {σ:St} {j:Nat} {x:V}:zcU ((zcU σ [j]).set j (some x)) [j]=zcU σ [j]:=by
 show (((σ.set j none).set j (some x)).set j none)=σ.set j none
 rw[List.set_set,List.set_set]
theorem Same.upd {H:Hp} {p:Addr} {o:HO} (h:H p=none):Same H (L2.upd H p o):=λb u e=>by
 rw[zbL (zbI e h)];exact e
theorem zb4 {α:Type}:∀{l:List α} {i:Nat} {x:α},l[i]? = some x→l.take (i + 1)=l.take i++[x]
 | [],i,x,h=>by simp at h
 | a::l,0,x,h=>by
  have e:a=x:=Option.some.inj h
  subst e
  rfl
 | a::l,i + 1,x,h=>by
  have ih:=zb4 (l:=l) (i:=i) (x:=x) h
  show a::l.take (i + 1)=a::l.take i++[x]
  rw[ih]
  rfl
def zgD (H1:Hp) (D:Addr) (ys:List V) (i:Nat) (H:Hp):Prop:=Same H1 H∧H D=some (.lst (ys.take i))
theorem zeN {K:PySem.W.Frag} {a:Addr} {xs:List V} {te:TE} {j:Nat} {σ:St} {H1:Hp} {Q:Addr→Hp→Prop} (hl:SqL K H1 a xs) (ys:List V) (hy:ys.length=xs.length) (hz:xs.length≤sizeLine)
    (step:∀(i:Nat) x y H2 (Q':VK),xs[i]? = some x→ys[i]? = some y→Same H1 H2→(∀H3,Same H2 H3→Q' y H3)→te ((zcU σ [j]).set j (some x)) H2 Q')
    (done:∀D H2,H1 D=none→Same H1 H2→H2 D=some (.lst ys)→Q D H2) :
    ∃a',V.ref a=.ref a'∧(∃xs,SqL K H1 a' xs)∧∀D,H1 D=none→∃W:Nat→Nat→Hp→Prop,(∃m,W 0 m (upd H1 D (.lst [])))∧∀i m H,W i m H →
      ((Itl K a').stop i H∧Q D H)∨((Itl K a').go i H∧∃Nx:Hp→Prop,(∀H',Nx H'→∃m',m' < m∧W (i + 1) m' H')∧∀x H',(Itl K a').yld i H x H'→zeM j x (zcU σ [j]) H' λσ2 H2=>zcU σ2 [j]=zcU σ [j]∧zpe σ2 H2 λb H3 =>
        if b=true then te σ2 H3 λy H4=>∃acc,H4 D=some (.lst acc)∧acc.length < sizeLine∧Nx (upd H4 D (.lst (acc++[y]))) else Nx H3):=by
  refine⟨a,rfl,⟨xs,hl⟩,λD hD=>?_⟩
  refine zns (K:=K) (a:=a) (xs:=xs) (Qd:=λH=>Q D H) (zgD H1 D ys) ⟨Same.upd hD,zbG⟩ (λi H _ c=>c.1.seq hl) (λi x H hx c=>?_) (λH c=>?_)
  · have hi:i < ys.length:=by rw[hy];exact (List.getElem?_eq_some_iff.mp hx).1
    obtain⟨y,hyi⟩:∃y,ys[i]? = some y:=⟨_,List.getElem?_eq_getElem hi⟩
    show _=_∧zpe _ _ _
    refine⟨zpH,?_⟩
    show te _ H _
    refine step i x y H _ hx hyi c.1 λH3 s3=>?_
    have h3:=s3 _ _ c.2
    refine⟨_,h3,?_,?_⟩
    · rw[List.length_take];omega
    · refine⟨λb o e=>?_,?_⟩
      · rw[zbL (zbI e hD)];exact s3 _ _ (c.1 _ _ e)
      · rw[zbG,zb4 hyi]
  · refine done D H hD c.1 ?_
    have e:=c.2
    rw[←hy,List.take_length] at e
    exact e
theorem zil {te:TE} {j n:Nat} {lo:Int} {σ:St} {H1:Hp} {Q:Addr→Hp→Prop} (ys:List V) (hy:ys.length=n) (hz:n≤sizeLine)
    (step:∀(i:Nat) y H2 (Q':VK),i < n→ys[i]? = some y→Same H1 H2→(∀H3,Same H2 H3→Q' y H3)→te ((zcU σ [j]).set j (some (.int (lo + i)))) H2 Q')
    (done:∀D H2,H1 D=none→Same H1 H2→H2 D=some (.lst ys)→Q D H2) :
    ∀D,H1 D=none→∃W:Nat→Nat→Hp→Prop,(∃m,W 0 m (upd H1 D (.lst [])))∧∀i m H,W i m H →
      ((Itr lo n).stop i H∧Q D H)∨((Itr lo n).go i H∧∃Nx:Hp→Prop,(∀H',Nx H'→∃m',m' < m∧W (i + 1) m' H')∧∀x H',(Itr lo n).yld i H x H'→zeM j x (zcU σ [j]) H' λσ2 H2=>zcU σ2 [j]=zcU σ [j]∧zpe σ2 H2 λb H3 =>
        if b=true then te σ2 H3 λy H4=>∃acc,H4 D=some (.lst acc)∧acc.length < sizeLine∧Nx (upd H4 D (.lst (acc++[y]))) else Nx H3):=by
  intro D hD
  refine zoU (lo:=lo) (n:=n) (Qd:=λH=>Q D H) (zgD H1 D ys) ⟨Same.upd hD,zbG⟩ (λi H hi c=>?_) (λH c=>?_)
  · obtain⟨y,hyi⟩:∃y,ys[i]? = some y:=⟨_,List.getElem?_eq_getElem (by omega)⟩
    show _=_∧zpe _ _ _
    refine⟨zpH,?_⟩
    show te _ H _
    refine step i y H _ hi hyi c.1 λH3 s3=>?_
    have h3:=s3 _ _ c.2
    refine⟨_,h3,?_,?_⟩
    · rw[List.length_take];omega
    · refine⟨λb o e=>?_,?_⟩
      · rw[zbL (zbI e hD)];exact s3 _ _ (c.1 _ _ e)
      · rw[zbG,zb4 hyi]
  · refine done D H hD c.1 ?_
    have e:=c.2
    rw[←hy,List.take_length] at e
    exact e
theorem zoc {σ:St} {j k:Nat} {x y:V} (h:j≠k):zcU (((zcU σ [j,k]).set j (some x)).set k (some y)) [j,k]=zcU σ [j,k]:=by
 show ((((((σ.set k none).set j none).set j (some x)).set k (some y)).set k none).set j none)=(σ.set k none).set j none
 rw[List.set_set,List.set_set,List.set_comm (some x) none h,List.set_set,List.set_set]
theorem zhu {K:PySem.W.Frag} {a:Addr} {xs:List V} {tt:TT} {te:TE} {j1 j2:Nat} {σ:St} {H1:Hp} {Q:Addr→Hp→Prop} (hl:SqL K H1 a xs) (hz:xs.length≤sizeLine) (hj:j1≠j2) (b:Nat→Bool) (y:Nat→V)
    (ht:∀(i:Nat) x H2 (Q':Bool→Hp→Prop),xs[i]? = some x→Same H1 H2→(∀H3,Same H2 H3→Q' (b i) H3)→tt (((zcU σ [j1,j2]).set j1 (some (.int i))).set j2 (some x)) H2 Q')
    (he:∀(i:Nat) x H2 (Q':VK),xs[i]? = some x→b i=true→Same H1 H2→(∀H3,Same H2 H3→Q' (y i) H3)→te (((zcU σ [j1,j2]).set j1 (some (.int i))).set j2 (some x)) H2 Q')
    (done:∀D H2,H1 D=none→Same H1 H2→H2 D=some (.lst ((List.range xs.length).filterMap λi=>if b i=true then some (y i) else none))→Q D H2) :
    ∃a' xs,[V.ref a]=[V.ref a']∧SqL K H1 a' xs∧∀D,H1 D=none→∃W:Nat→Nat→Hp→Prop,(∃m,W 0 m (upd H1 D (.lst [])))∧∀i m H,W i m H →
      ((Ite K a').stop i H∧Q D H)∨((Ite K a').go i H∧∃Nx:Hp→Prop,(∀H',Nx H'→∃m',m' < m∧W (i + 1) m' H')∧∀x H',(Ite K a').yld i H x H'→zqc K 2 (zhp (zeM j1) (zhp (zeM j2) zqB)) x (zcU σ [j1,j2]) H' λσ2 H2=>zcU σ2 [j1,j2]=zcU σ [j1,j2]∧tt σ2 H2 λb H3 =>
        if b=true then te σ2 H3 λy H4=>∃acc,H4 D=some (.lst acc)∧acc.length < sizeLine∧Nx (upd H4 D (.lst (acc++[y]))) else Nx H3):=by
  refine⟨a,xs,rfl,hl,λD hD=>?_⟩
  let acc:Nat→List V:=λn=>(List.range n).filterMap λi=>if b i=true then some (y i) else none
  have accT:∀n,b n=true→acc (n + 1)=acc n++[y n]:=λn h=>by
    show (List.range (n + 1)).filterMap _=_
    rw[List.range_succ,List.filterMap_append,List.filterMap_cons_some (b:=y n) (by rw[if_pos h]),List.filterMap_nil]
  have accF:∀n,¬b n=true→acc (n + 1)=acc n:=λn h=>by
    show (List.range (n + 1)).filterMap _=_
    rw[List.range_succ,List.filterMap_append,List.filterMap_cons_none (by rw[if_neg h]),List.filterMap_nil,List.append_nil]
  have accL:∀n,(acc n).length≤n:=λn=>by
    have:=List.length_filterMap_le (λi=>if b i=true then some (y i) else none) (List.range n)
    rw[List.length_range] at this
    exact this
  refine⟨λi m H=>i≤xs.length∧m=xs.length - i∧Same H1 H∧H D=some (.lst (acc i)),⟨xs.length,Nat.zero_le _,rfl,Same.upd hD,zbG⟩,λi m H ⟨hi,hm,s,hd⟩=>?_⟩
  by_cases hlt:i < xs.length
  · right
    have hx:xs[i]? = some xs[i]:=List.getElem?_eq_getElem hlt
    refine⟨⟨xs,_,s.seq hl,hx⟩,λH'=>Same H1 H'∧H' D=some (.lst (acc (i + 1))),λH' ⟨h1,h2⟩=>⟨xs.length - (i + 1),by omega,by omega,rfl,h1,h2⟩,?_⟩
    rintro v H' ⟨T,x,rfl,hT,rfl,hh⟩
    have hx':=hh xs (s.seq hl)
    have sT:Same H (L2.upd H T (.tup [.int (i:Nat),x])):=Same.upd hT
    refine⟨T,_,rfl,SqT.of zbG,rfl,_,_,rfl,_,_,rfl,rfl,zoc hj,?_⟩
    refine ht i x _ _ hx' (s.trans sT) λH3 s3=>?_
    have s13:Same H1 H3:=(s.trans sT).trans s3
    have hd3:H3 D=some (.lst (acc i)):=s3 _ _ (sT _ _ hd)
    by_cases hb:b i=true
    · rw[if_pos hb]
      refine he i x _ _ hx' hb s13 λH4 s4=>?_
      refine⟨_,s4 _ _ hd3,Nat.lt_of_le_of_lt (accL i) (Nat.lt_of_lt_of_le hlt hz),λq o e=>?_,?_⟩
      · rw[zbL (zbI e hD)];exact s4 _ _ (s13 _ _ e)
      · rw[zbG,accT i hb]
    · rw[if_neg hb]
      exact⟨s13,by rw[accF i hb];exact hd3⟩
  · left
    have e:i=xs.length:=by omega
    subst e
    exact⟨⟨xs,s.seq hl,Nat.le_refl _⟩,done D H hD s hd⟩
theorem zqe {K:PySem.W.Frag} {a:Addr} {xs:List V} {g:TG} {tb:TS} {D:Ends} {σ:St} {H:Hp} (Pv:Nat→St→Hp→Prop) (h0:Pv 0 σ H) (hl:∀i σ H,i≤xs.length→Pv i σ H→SqL K H a xs)
  (hs:∀(i:Nat) x σ H,i < xs.length→xs[xs.length - 1 - i]? = some x→Pv i σ H→g x σ H λσ2 H2=>tb { D with nx:=Pv (i + 1),ct:=Pv (i + 1),bk:=D.nx } σ2 H2) (hd:∀σ H,Pv xs.length σ H→D.nx σ H) :
  ∃W:Nat→Nat→St→Hp→Prop,(∃m,W 0 m σ H)∧∀i m σ H,W i m σ H →
   ((Itv K a xs.length).stop i H∧D.nx σ H)∨((Itv K a xs.length).go i H∧∃N:St→Hp→Prop,(∀σ' H',N σ' H'→∃m',m' < m∧W (i + 1) m' σ' H')∧∀x H',(Itv K a xs.length).yld i H x H'→g x σ H' λσ2 H2=>tb { D with nx:=N,ct:=N,bk:=D.nx } σ2 H2):=by
 refine⟨λi m σ H=>i≤xs.length∧m=xs.length - i∧Pv i σ H,⟨_,Nat.zero_le _,rfl,h0⟩,λi m σ H ⟨hi,hm,h⟩=>?_⟩
 by_cases hlt:i < xs.length
 ·right
  have hx:xs[xs.length - 1 - i]? = some xs[xs.length - 1 - i]:=List.getElem?_eq_getElem (by omega)
  refine⟨⟨hlt,xs,_,hl i σ H hi h,hx⟩,Pv (i + 1),λσ' H' h'=>⟨_,by omega,by omega,rfl,h'⟩,?_⟩
  rintro x H' ⟨rfl,hh⟩
  exact hs i x σ _ hlt (hh xs (hl i σ _ hi h)) h
 ·left
  have e:i=xs.length:=by omega
  subst e
  exact⟨Nat.le_refl _,hd σ H h⟩
def zn2 (P:Program) (w:World) (K:PySem.W.Frag) (a:Addr) (kvs:List (Key×V)):Prop :=
 kvs.length≤sizeLine∧(a == sysModules)=false∧∃vs,KV kvs vs∧∀h:Heap,K.In h→h.DictOf (zcw P w) a vs
def zrP (P:Program) (w:World) (K:PySem.W.Frag) (td ty:TE):TE:=λσ H Q=>td σ H λx H1=>ty σ H1 λy H2=>∃a kvs k v,x=.ref a∧zn2 P w K a kvs∧y=kV k∧zhJ kvs k=some v∧Q v H2
def zqJ (P:Program) (w:World) (K:PySem.W.Frag) (td ty tx:TE):TE:=λσ H Q=>td σ H λx H1=>∃a kvs,x=.ref a∧zn2 P w K a kvs∧ty σ H1 λy H2=>tx σ H2 λz H3=>∃k,y=kV k∧Q ((zhJ kvs k).getD z) H3
section
variable {X : Cx} {o i e f : Expr} {td ty tx : TE} {pos apos cpos : Pos}
theorem zpT (hu:X.A.units + 1 < cLine) (ho:PE X o td) (hi:PE X i ty) (hs:zsc i):PE X (.Subscript o i pos) (zrP X.prog X.w X.K td ty):=by
 intro pins s σ H Q I h
 refine zmA PySem.F.slot_dict_getitem.lookup hs (thn (ho pins s σ H _ I h) λu s1 ⟨x,H1,I1,rx,q1⟩=>thn (hi pins s1 σ H1 _ I1 q1) λiv s2 ⟨y,H2,I2,ry,a,kvs,k,v,ex,⟨z,hd,vs,rel,dd⟩,ey,hv,q2⟩=>?_)
 subst ex ey
 obtain rfl:u=Value.ref a:=rx
 have dd2:=dd _ I2.kIn
 obtain⟨w',hw,rw'⟩:=RelO.some_of (v:=v) (o:=valueAt vs k) (by rw[←hv];exact rel.val k)
 exact⟨dd2.typeIs,wpAny_getItem_of (znv ry) dd2.mapOf hw ⟨v,H2,I2.tok _,rw',q2⟩⟩
theorem zos (hu:X.A.units + 1 < cLine) (ho:PE X o td) (he:PE X e ty) (hf:PE X f tx) (m:M2 X o "get" apos e f cpos):PE X (.Call (.Attribute o "get" apos) [e,f] [] cpos) (zqJ X.prog X.w X.K td ty tx):=by
 intro pins s σ H Q I h
 refine wpAny_Call_method m.base m.few m.line PySem.F.plainAttrs_dict PySem.F.slot_dict_get PySem.F.type_dict_get (thn (ho pins s σ H _ I h) λu s1 ⟨x,H1,I1,rx,a,kvs,ex,⟨z,hd,vs,rel,dd⟩,q1⟩=>?_)
 subst ex
 obtain rfl:u=Value.ref a:=rx
 have dd1:=dd _ I1.kIn
 refine⟨dd1.typeIs,λb q=>?_,?_⟩
 ·cases q
  obtain⟨ob,_,_,h1,h2,_⟩:=dd1
  exact⟨ob,h1,h2.2.1⟩
 rw[m.trees]
 refine Calls.callWith_builtin rfl (Calls.evalArgs_plain (Calls.spliced_cons (thn (he pins s1 σ H1 _ I1 q1) λiv s2 ⟨y,H2,I2,ry,q2⟩ =>
  Calls.spliced_cons (thn (hf pins s2 σ H2 _ I2 q2) λfv s3 ⟨zz,H3,I3,rz,k,ey,q3⟩=>Calls.spliced_nil ?_))))
 subst ey
 have dd3:=dd _ I3.kIn
 refine call_meetsIn PySem.F.slot_dict_get dd3.typeIs PySem.F.entry_dict_get (PySem.F.args_dict_get_3 _ _ _) (meets_dict_get_default (zcw X.prog X.w) a (znv ry) hd fv) ⟨_,dd3.mapOf,⟨_,H3,I3.tok _,?_,q3⟩⟩
 exact (rel.val k).getD rz
end
def zsd (w:World) (kv:Key×V) (e:DictEntry):Prop:=e.hash=zrZ w kv.1∧zhZ kv.1 e.key=true∧RelV kv.2 e.val
theorem zlp {P:Program} {w:World} {K:PySem.W.Frag} {a:Addr} {es:Array DictEntry} {n:Nat} {kvs:List (Key×V)} (l:K.lookup a=some ⟨.type "dict",none,.dict es n,#[]⟩) (ha:(a == sysModules)=false)
  (hp:Paired (zsd w) kvs es.toList) (hz:kvs.length≤sizeLine) (hn:(kvs.map (·.1)).Nodup):zn2 P w K a kvs:=by
 have hvs:∀{ks:List (Key×V)} {l:List DictEntry},Paired (zsd w) ks l→∃vs,KV ks vs∧Pairs (zcw P w) l vs∧vs.map (·.1)=ks.map (·.1):=by
  intro ks l h
  induction h with
  | nil=>exact⟨[],.nil,.nil,rfl⟩
  | @cons kv e ks l r t ih =>
   obtain⟨vs,h1,h2,h3⟩:=ih
   refine⟨(kv.1,e.val)::vs,.cons ⟨rfl,r.2.2⟩ h1,.cons r.2.1 rfl h2,?_⟩
   rw[List.map_cons,List.map_cons,h3]
 have hks:∀{ks:List (Key×V)} {l:List DictEntry},Paired (zsd w) ks l→∀e∈l,∃k,zhZ k e.key=true∧e.hash=zrZ w k:=by
  intro ks l h
  induction h with
  | nil=>intro e he;exact absurd he (List.not_mem_nil)
  | @cons kv e ks l r t ih =>
   intro e' he
   rcases List.mem_cons.mp he with rfl | he
   ·exact⟨kv.1,r.2.1,r.1⟩
   ·exact ih e' he
 obtain⟨vs,h1,h2,h3⟩:=hvs hp
 refine⟨hz,ha,vs,h1,λh hK=>⟨_,es,n,hK _ _ l,⟨rfl,rfl,rfl⟩,rfl,λe he=>hks hp e (by simpa using he),h2,by rw[h3];exact hn⟩⟩
end L2
namespace L2
open PySem PySem.Spec PyProof.Rows
section
variable {prog : Program} {w : World} {A : Around} {E : Value → Shared → Prop} {s : Shared}
theorem zeJ {g t:Addr} {i:Nat} {ys} {x:Value} {Q:Value→Shared→Prop} (hg:s.heap.IsTupleIter g t i) (ht:s.heap.IsTuple t ys) (hx:ys[i]? = some x)
  (hQ:∀h',h'.IsTupleIter g t (i + 1)→Heap.SameBut g s.heap h'→Q x { s with heap:=h' }):wpAny (model prog w) A (Builtin.SmallTypes.nextOf (.ref g)) Q E s:=by
 (obtain⟨o,ho,hc,hd⟩:=id hg);(obtain⟨ol,hol,_,nl,hdl⟩:=ht);unfold Builtin.SmallTypes.nextOf
 refine wpAny_bind (wpAny_callSpecial?_slot (name:=Str.ofString "__next__") hg.typeIs F.slot_tuple_iterator_next (wpAny_call_entry F.slot_tuple_iterator_next hg.typeIs F.entry_tuple_iterator_next ?_ (F.args_tuple_iterator_next_1 _)))
 (show wpAny _ _ (field (.ref g) 0 >>= _) _ _ s);(refine wpAny_bind (wpAny_field ho hd (x:=.ref t) rfl ?_))
 (show wpAny _ _ (if (Value.ref t == Value.none)=true then _ else _) _ _ s);rw[if_neg (show ¬((Value.ref t == Value.none)=true) from Bool.false_ne_true)]
 (show wpAny _ _ (field (.ref g) 1 >>= _) _ _ s);(refine wpAny_bind (wpAny_field ho hd (x:=.int i 0) rfl ?_))
 (show wpAny _ _ (seqItems? (.ref t) >>= _) _ _ s);(refine wpAny_bind (wpAny_seqItems hol hdl ?_));simp only [Int.toNat_natCast,hx]
 refine wpAny_bind (wpAny_setField ho hd (by simp) (wpAny_pure ⟨x,rfl,wpAny_pure (hQ _ ⟨_,Heap.get?_update_self _ ho (Obj.isFreed_of_fields (Obj.data_mapFields hd _)),(Obj.cls_mapFields ..).trans hc,by rw[Obj.data_mapFields hd];simp [rawInt]⟩ (Heap.SameBut.update ..))⟩))
theorem zhW {g t:Addr} {i:Nat} {ys} {Q:Value→Shared→Prop} (hh:A.handled=none) (hg:s.heap.IsTupleIter g t i) (ht:s.heap.IsTuple t ys) (hx:ys[i]? = none)
  (hE:∀h' e,Heap.ExtBut g s.heap h'→(∃o,h'.get? e=some o∧o.cls=.type "StopIteration")→E (.ref e) { s with heap:=h' }):wpAny (model prog w) A (Builtin.SmallTypes.nextOf (.ref g)) Q E s:=by
 (obtain⟨o,ho,hc,hd⟩:=id hg);(obtain⟨ol,hol,_,nl,hdl⟩:=ht);unfold Builtin.SmallTypes.nextOf
 refine wpAny_bind (wpAny_callSpecial?_slot (name:=Str.ofString "__next__") hg.typeIs F.slot_tuple_iterator_next (wpAny_call_entry F.slot_tuple_iterator_next hg.typeIs F.entry_tuple_iterator_next ?_ (F.args_tuple_iterator_next_1 _)))
 (show wpAny _ _ (field (.ref g) 0 >>= _) _ _ s);(refine wpAny_bind (wpAny_field ho hd (x:=.ref t) rfl ?_))
 (show wpAny _ _ (if (Value.ref t == Value.none)=true then _ else _) _ _ s);rw[if_neg (show ¬((Value.ref t == Value.none)=true) from Bool.false_ne_true)]
 (show wpAny _ _ (field (.ref g) 1 >>= _) _ _ s);(refine wpAny_bind (wpAny_field ho hd (x:=.int i 0) rfl ?_))
 (show wpAny _ _ (seqItems? (.ref t) >>= _) _ _ s);(refine wpAny_bind (wpAny_seqItems hol hdl ?_));simp only [Int.toNat_natCast,hx]
 (refine wpAny_bind (wpAny_rule (wpAny_bind (wpAny_setField ho hd (by simp) ?_))));(show wpAny _ _ (newExc (.type "StopIteration") [] >>= _) _ _ _);(refine wpAny_bind ?_);simp only [newExc,newTuple]
 (refine wpAny_bind (wpAny_newObj_type ?_ (by size_fits)));(refine wpAny_bind (m:=firstArgMember _ _) (wpAny_of_eq (a:=Value.none) (by first | rfl | (simp only [firstArgMember];rfl)) ?_));(refine wpAny_newObj_type ?_ (by size_fits));simp only [raiseNew]
 (refine wpAny_bind (wpAny_handled ?_));(first | rw[show A.in1.handled=none from hh] | rw[hh]);(refine wpAny_bind (wpAny_pure (wpAny_throw ?_)))
 exact hE _ _ (((Heap.SameBut.update ..).extBut.push _).push _) ⟨_,Heap.get?_push_size _ rfl,rfl⟩
end
theorem zpA {prog:Program} {w:World} {A:Around} (hh:A.handled=none) (g t:Addr) (hne:t≠g) (ys:Array Value) :
  Draws prog w A g [g,t] ys.size (λi v=>ys[i]? = some v) (λi h=>h.IsTupleIter g t i∧h.IsTuple t ys) where
 live:=λ_ _ st=>let ⟨o,ho,_⟩:=st.1;⟨o,ho⟩
 frame:=λ_ _ _ st hk=>⟨st.1.at λo e=>hk g (by simp) o e,let ⟨o,ho,r⟩:=st.2;⟨o,hk t (by simp) o ho,r⟩⟩
 item:=λi s Q E hi st hQ=>zeJ st.1 st.2 (x:=ys[i]) (by simp [hi]) λh' hit' hs'=>hQ _ h' s.toks (by simp [hi]) ⟨hit',st.2.extBut hs'.extBut hne⟩ hs'
 done:=λs Q E st hE=>zhW hh st.1 st.2 (by simp) hE
theorem znK (l:Addr) (ys:Array Value) (n:Nat) (dct:Option Addr) (sl:Array (Option Value)) :
  Meets (Builtin.«enumerate.__new__» ⟨[.type "enumerate",.ref l],[]⟩) (λ_ R s=>s.heap.get? l=some { cls:=.type "tuple",dict:=dct,data:=.seq ys n,slots:=sl } ∧
   R (.ok (.ret (.ref (s.heap.push { cls:=.type "tuple_iterator",data:=.fields #[.ref l,.int 0 0] }).objs.size)))
    { s with heap:=(s.heap.push { cls:=.type "tuple_iterator",data:=.fields #[.ref l,.int 0 0] }).push { cls:=.type "enumerate",data:=.fields #[.none,.bool false,.ref s.heap.objs.size,rawInt 0,.none,.none] } }) :=
 .of_wp λprog w A R s h=>by
  (obtain⟨hp,g,d,tk,os⟩:=s);(obtain⟨hl,h⟩:=h);have hsub:=sub_enumerate
  have hL:Heap.IsTuple (Shared.heap ⟨hp,g,d,tk,os⟩) l ys:=⟨_,hl,rfl,n,rfl⟩
  wp_walk using PySem.AutoSeq1.wpAny_loadPart' hl
  (refine wpAny_stack_any λst=>wpAny_pure ?_);split
  ·rename_i c _ _ _ _ _
   cases (c == Value.type "enumerate")
   ·(wp_walk using PySem.AutoSeq1.wpAny_loadPart' hl,wpAny_pyIter_tuple hL);exact⟨_,rfl,h⟩
   ·(wp_walk using PySem.AutoSeq1.wpAny_loadPart' hl,wpAny_pyIter_tuple hL);exact⟨_,rfl,h⟩
  ·(wp_walk using PySem.AutoSeq1.wpAny_loadPart' hl,wpAny_pyIter_tuple hL);exact⟨_,rfl,h⟩
theorem zmi {prog:Program} {w:World} {A:Around} {E:Value→Shared→Prop} {s:Shared} {l:Addr} {ys:Array Value} {Q:Value→Shared→Prop} (hL:s.heap.IsTuple l ys)
  (h:∀h',IsEnum h' (s.heap.objs.size + 1) s.heap.objs.size 0 .none→h'.IsTupleIter s.heap.objs.size l 0→h'.objs.size=s.heap.objs.size + 2→(∀b o,s.heap.get? b=some o→h'.get? b=some o)→Q (.ref (s.heap.objs.size + 1)) { s with heap:=h' }) :
  wpAny (model prog w) A (call (.type "enumerate") [.ref l]) Q E s:=by
 obtain⟨⟨c,dct,dt,sl⟩,hl,hc,n,hd⟩:=hL
 (replace hc:c=.type "tuple":=hc);(replace hd:dt=.seq ys n:=hd);subst hc hd
 refine callType_new F.called_enumerate (by decide) (F.typeCall_enumerate_1 _) (F.newCall_enumerate_1 _) (λobj=>F.args_object_init_2 obj _) F.entry_enumerate_new (znK l ys n dct sl) ⟨hl,?_⟩
 have hz:(s.heap.push { cls:=.type "tuple_iterator",data:=.fields #[.ref l,.int 0 0] }).objs.size=s.heap.objs.size + 1:=Heap.size_push ..
 show _∧_
 rw[hz]
 have he:IsEnum ((s.heap.push { cls:=.type "tuple_iterator",data:=.fields #[.ref l,.int 0 0] }).push { cls:=.type "enumerate",data:=.fields #[.none,.bool false,.ref s.heap.objs.size,rawInt 0,.none,.none] }) (s.heap.objs.size + 1) s.heap.objs.size 0 .none:=by
  have:=Heap.get?_push_size (s.heap.push { cls:=.type "tuple_iterator",data:=.fields #[.ref l,.int 0 0] }) (o:={ cls:=.type "enumerate",data:=.fields #[.none,.bool false,.ref s.heap.objs.size,rawInt 0,.none,.none] }) rfl
  rw[hz] at this;exact this
 refine⟨⟨_,he,rfl⟩,h _ he ⟨_,Heap.get?_push_of_some _ (Heap.get?_push_size _ rfl),rfl,rfl⟩ (by rw[Heap.size_push,hz]) λb o x=>Heap.get?_push_of_some _ (Heap.get?_push_of_some _ x)⟩
def zrp (K:PySem.W.Frag) (a:Addr):It :=
 ⟨λi H=>∃(xs:List V) (x:V),SqT K H a xs∧xs[i]? = some x,λi H v H'=>∃T x,v=.ref T∧H T=none∧H'=upd H T (.tup [.int (i:Nat),x])∧∀xs,SqT K H a xs→xs[i]? = some x,λi H=>∃xs:List V,SqT K H a xs∧xs.length=i⟩
theorem zlP {P:Program} {w:World} {K:PySem.W.Frag} {elts:List Expr} {kk:Nat} {tpos:Pos} (a e it:Addr) (hai:a≠it) (hae:a≠e) :
  Turn P w K (.Tuple elts kk tpos) (zrp K a) [e,it] e (λi h=>(∃old,IsEnum h e it ((i:Nat):Int) old)∧h.IsTupleIter it a i∧e≠it) where
 mem:=by simp
 obj:=λi h st b hb=>by
  obtain⟨⟨old,he⟩,⟨o,ho,hc,hd⟩,_⟩:=st
  have e':b=e∨b=it:=by simpa using hb
  rcases e' with z | z
  ·rw[z];exact⟨_,he,λv q=>nomatch q⟩
  ·rw[z];exact⟨o,ho,λv q=>by rw[hd] at q;cases q⟩
 keep:=λi h h' st k=>let ⟨⟨old,he⟩,hi,hne⟩:=st;⟨⟨old,k e (by simp) _ he⟩,hi.at λo q=>k it (by simp) o q,hne⟩
 item:=by
  intro X hP hw hK hc i pins s σ H E I hf st hg
  subst hP hw hK
  obtain⟨⟨old,he⟩,hit,hne⟩:=st
  obtain⟨xs,x,hq,hx⟩:=hg
  obtain⟨its,rv,p,hz⟩:=I.tuple hq
  obtain⟨u,hu,ru⟩:=rv.get hx
  have hel:e < s.heap.objs.size:=Heap.lt_size he
  have hil:it < s.heap.objs.size:=by obtain⟨_,q,_⟩:=hit;exact Heap.lt_size q
  have hlt:i < its.toArray.size:=by have:=(List.getElem?_eq_some_iff.mp hu).1;simpa using this
  have DT:=zpA (prog:=X.prog) (w:=X.w) (A:=X.A.in1) (show X.A.in1.handled=none from I.ok.hd hc) it a hai its.toArray
  refine wpAny_pyNext_enum_itemD DT he ⟨hit,(show s.heap.IsTuple a its.toArray from p)⟩ hlt hne (by intro z;rcases List.mem_cons.mp z with z | z;exact hne z;exact hae (List.mem_singleton.mp z).symm) λv h' tk hv ho hit' hT hsz hk=>?_
  have ev:v=u:=Option.some.inj (hv.symm.trans (by simpa using hu))
  subst ev
  refine⟨_,rfl,wpAny_letOwnedTupleGo_enum (s:={ s with heap:=h',toks:=tk + 1 }) ho λh'' he' sb=>?_⟩
  have hT2:h''.get? s.heap.objs.size=some { cls:=.type "tuple",data:=.seq #[.int i tk,v] }:=(sb.2 _ (Nat.ne_of_gt hel)).trans hT
  have new:ObjOk X.prog X.w (upd H s.heap.objs.size (.tup [.int (i:Nat),x])) h'' s.heap.objs.size (.tup [.int (i:Nat),x]) :=
   ⟨by show 2≤sizeLine;decide,[.int i tk,v],.cons ⟨_,rfl⟩ (.cons ru .nil),⟨_,hT2,rfl,_,rfl⟩⟩
  have I1:Inv X pins σ (upd H s.heap.objs.size (.tup [.int (i:Nat),x])) { s with heap:=h'',toks:=tk + 1 } :=
   I.turnedNew (ch:=[e,it]) (λb ob hb q=>(sb.2 b (λz=>hb (by simp [z]))).trans (hk b ob (λz=>hb (by simp [z])) (λz=>hb (by simp [z])) q)) hf (Nat.le_refl _) new
  refine⟨.ref s.heap.objs.size,_,I1,rfl,⟨_,x,rfl,I.hok.fresh (Nat.le_refl _),rfl,λys hy=>by rw[I.tuple_inj hy hq];exact hx⟩,⟨⟨v,?_⟩,hit'.1.at λo q=>(sb.2 it (Ne.symm hne)).trans q,hne⟩,λb hb=>?_⟩
  ·have e1:((i + 1:Nat):Int)=(i:Int) + 1:=by omega
   rw[e1];exact he'
  ·have hb':b < s.heap.objs.size:=by
    have e':b=e∨b=it:=by simpa using hb
    rcases e' with z | z
    ·rw[z];exact hel
    ·rw[z];exact hil
   rw[zbL (Nat.ne_of_lt hb')]
   exact (hf b hb).1
 done:=by
  intro X hP hw hK hc i pins s σ H E I hf st hg
  subst hP hw hK
  obtain⟨⟨old,he⟩,hit,hne⟩:=st
  obtain⟨xs,hq,hx⟩:=hg
  obtain⟨its,rv,p,hz⟩:=I.tuple hq
  obtain⟨f0,f1,f2,f3,f4,f5⟩:=hf it (by simp)
  have hl:its.toArray.size=i:=by have:=rv.length;simp;omega
  subst hl
  have DT:=zpA (prog:=X.prog) (w:=X.w) (A:=X.A.in1) (show X.A.in1.handled=none from I.ok.hd hc) it a hai its.toArray
  exact wpAny_pyNext_enum_endD DT he ⟨hit,(show s.heap.IsTuple a its.toArray from p)⟩ λh' eb=>⟨rfl,I.turned (t':=s.toks) (λb o hb q=>eb b o hb q) f0 f1 f3 f4 f5⟩
 self:=λA i s Q E st h=>let ⟨⟨_,he⟩,_⟩:=st;wpAny_pyIter_enum he h
def zre (K:PySem.W.Frag) (ta:TA):TI:=λσ H R=>ta σ H λvs H1=>∃a xs,vs=[.ref a]∧SqT K H1 a xs∧R (zrp K a) H1
theorem zoo {X:Cx} {e:Expr} {ta:TA} {p pos tpos:Pos} {elts:List Expr} {kk:Nat} (hg:Gl X "enumerate") (hm:X.mg "enumerate"=none) (ha:PA X [e] ta) (hs:starEach [e] X.env=[(false,eval e X.env)]:=by rfl) :
  PI X (.Tuple elts kk tpos) (.Call (.Name "enumerate" p) [e] [] pos) (zre X.K ta):=by
 intro pins s σ H R I h
 refine Call_ (zfJ I hg hm boot_enumerate (PyProof.Rows.callWith_type1 (thn (ha pos pins s σ H _ I h) λus s1 ⟨vs,H1,I1,r1,q1⟩=>?_) hs rfl))
 obtain⟨a,xs,ex,hq,q⟩:=q1
 subst ex
 cases r1 with
 | cons r rr =>
  cases rr
  cases r
  obtain⟨its,rv,p',hz⟩:=I1.tuple hq
  have hal:a < s1.heap.objs.size:=by obtain⟨o,ho,_⟩:=id p';exact Heap.lt_size ho
  refine zmi (show s1.heap.IsTuple a its.toArray from p') λh' he hit hsz hk=>wpAny_pyIter_enum he ?_
  have I2:Inv X pins σ H1 { s1 with heap:=h' }:=I1.kept (t':=s1.toks) hk
  refine⟨s1.heap.objs.size + 1,[s1.heap.objs.size + 1,s1.heap.objs.size],_,_,H1,rfl,I2,zlP a (s1.heap.objs.size + 1) s1.heap.objs.size (Nat.ne_of_lt hal) (Nat.ne_of_lt (Nat.lt_succ_of_lt hal)),⟨⟨.none,he⟩,hit,Nat.succ_ne_self _⟩,λb hb=>?_,q⟩
  have e':b=s1.heap.objs.size + 1∨b=s1.heap.objs.size:=by simpa using hb
  have hle:s1.heap.objs.size≤b:=by
   rcases e' with z | z
   ·rw[z];exact Nat.le_add_right _ _
   ·rw[z];exact Nat.le_refl _
  exact I1.fpOk hle (I1.hok.fresh hle)
theorem znC {K:PySem.W.Frag} {a:Addr} {xs:List V} {j1 j2:Nat} {tb:TS} {D:Ends} {σ:St} {H:Hp} (hl:∀H,SqT K H a xs) (Pv:Nat→St→Hp→Prop) (h0:Pv 0 σ H)
  (hs:∀(i:Nat) x T σ H,xs[i]? = some x→H T=none→Pv i σ H→tb { D with nx:=Pv (i + 1),ct:=Pv (i + 1),bk:=D.nx } ((σ.set j1 (some (.int (i:Nat)))).set j2 (some x)) (upd H T (.tup [.int (i:Nat),x]))) (hd:∀σ H,Pv xs.length σ H→D.nx σ H) :
  ∃W:Nat→Nat→St→Hp→Prop,(∃m,W 0 m σ H)∧∀i m σ H,W i m σ H →
   ((zrp K a).stop i H∧D.nx σ H)∨((zrp K a).go i H∧∃N:St→Hp→Prop,(∀σ' H',N σ' H'→∃m',m' < m∧W (i + 1) m' σ' H')∧∀x H',(zrp K a).yld i H x H'→zqc K 2 (zhp (zeM j1) (zhp (zeM j2) zqB)) x σ H' λσ2 H2=>tb { D with nx:=N,ct:=N,bk:=D.nx } σ2 H2):=by
 refine⟨λi m σ H=>i≤xs.length∧m=xs.length - i∧Pv i σ H,⟨_,Nat.zero_le _,rfl,h0⟩,λi m σ H ⟨hi,hm,h⟩=>?_⟩
 by_cases hlt:i < xs.length
 ·right
  have hx:xs[i]? = some xs[i]:=List.getElem?_eq_getElem hlt
  refine⟨⟨xs,_,hl H,hx⟩,Pv (i + 1),λσ' H' h'=>⟨_,by omega,by omega,rfl,h'⟩,?_⟩
  rintro v H' ⟨T,x,rfl,hT,rfl,hh⟩
  have hx':=hh xs (hl _)
  exact⟨T,_,rfl,SqT.of zbG,rfl,_,_,rfl,_,_,rfl,rfl,hs i x T σ H hx' hT h⟩
 ·left
  have e:i=xs.length:=by omega
  subst e
  exact⟨⟨xs,hl H,rfl⟩,hd σ H h⟩
theorem zim {K:PySem.W.Frag} {d:Addr} {ob:Obj} {kvs:List (Key×V)} {te:TE} {j1 j2:Nat} {σ:St} {H1:Hp} {Q:Addr→Hp→Prop} (hl:H1 d=some (.frz ob (.dK kvs))) (hz:kvs.length≤sizeLine) (hj:j1≠j2) (ys:List V) (hy:ys.length=kvs.length)
    (he:∀(i:Nat) k v y H2 (Q':VK),kvs[i]? = some (k,v)→ys[i]? = some y→Same H1 H2→(∀H3,Same H2 H3→Q' y H3)→te (((zcU σ [j1,j2]).set j1 (some (kV k))).set j2 (some v)) H2 Q')
    (done:∀D H2,H1 D=none→Same H1 H2→H2 D=some (.lst ys)→Q D H2) :
    ∃d' ob' kvs',V.ref d=V.ref d'∧H1 d'=some (.frz ob' (.dK kvs'))∧∀D,H1 D=none→∃W:Nat→Nat→Hp→Prop,(∃m,W 0 m (upd H1 D (.lst [])))∧∀i m H,W i m H →
      ((Iti d' ob' kvs').stop i H∧Q D H)∨((Iti d' ob' kvs').go i H∧∃Nx:Hp→Prop,(∀H',Nx H'→∃m',m' < m∧W (i + 1) m' H')∧∀x H',(Iti d' ob' kvs').yld i H x H'→zqc K 2 (zhp (zeM j1) (zhp (zeM j2) zqB)) x (zcU σ [j1,j2]) H' λσ2 H2=>zcU σ2 [j1,j2]=zcU σ [j1,j2]∧zpe σ2 H2 λb H3 =>
        if b=true then te σ2 H3 λy H4=>∃acc,H4 D=some (.lst acc)∧acc.length < sizeLine∧Nx (upd H4 D (.lst (acc++[y]))) else Nx H3):=by
  refine⟨d,ob,kvs,rfl,hl,λD hD=>?_⟩
  refine⟨λi m H=>i≤kvs.length∧m=kvs.length - i∧zgD H1 D ys i H,⟨kvs.length,Nat.zero_le _,rfl,Same.upd hD,zbG⟩,λi m H ⟨hi,hm,s,hd⟩=>?_⟩
  by_cases hlt:i < kvs.length
  · right
    refine⟨⟨s _ _ hl,hlt⟩,zgD H1 D ys (i + 1),λH' h1=>⟨kvs.length - (i + 1),by omega,by omega,rfl,h1⟩,?_⟩
    rintro v H' ⟨T,k,x,hx,rfl,hT,rfl⟩
    obtain⟨y,hyi⟩:∃y,ys[i]? = some y:=⟨_,List.getElem?_eq_getElem (by omega)⟩
    have sT:Same H (L2.upd H T (.tup [kV k,x])):=Same.upd hT
    refine⟨T,_,rfl,SqT.of zbG,rfl,_,_,rfl,_,_,rfl,rfl,zoc hj,?_⟩
    show te _ _ _
    refine he i k x y _ _ hx hyi (s.trans sT) λH4 s4=>?_
    refine⟨_,s4 _ _ (sT _ _ hd),by rw[List.length_take];omega,λq o e=>?_,?_⟩
    · rw[zbL (zbI e hD)];exact s4 _ _ (sT _ _ (s _ _ e))
    · rw[zbG,zb4 hyi]
  · left
    have e:i=kvs.length:=by omega
    subst e
    refine⟨⟨s _ _ hl,Nat.le_refl _⟩,done D H hD s ?_⟩
    rw[←hy,List.take_length] at hd
    exact hd
theorem Same.unlock {H H':Hp} {d:Addr} {ob:Obj} {u:HO} (hd:H d=some u) (s:Same (L2.upd H d (.frz ob u)) H'):Same H (L2.upd H' d u):=λb o e=>by
 by_cases hb:b=d
 ·subst hb;rw[zbG,←hd];exact e
 ·rw[zbL hb];exact s _ _ (by rw[zbL hb];exact e)
end L2
namespace Z
open Vbeman (Line Right House Bid)
theorem zfX (a:Int) (l:List Int):Vbeman.total (a::l)=a + Vbeman.total l:=rfl
theorem zls (o:Nat):∀l:List Bid,Vbeman.total ((l.filter λb=>b.owner == o).map Vbeman.heldFor)=Vbeman.total (l.map λb=>if b.owner=o then Vbeman.heldFor b else 0)
 | []=>rfl
 | b::l=>by
  rw[List.map_cons,zfX,←zls o l]
  by_cases h:b.owner=o
  ·rw[if_pos h,List.filter_cons_of_pos (by simpa using h),List.map_cons,zfX]
  ·rw[if_neg h,List.filter_cons_of_neg (by simpa using h),Int.zero_add]
def zcu (l:List Bid) (k:Nat) (q:Int):List Bid:=if q≤0 then l.filter (λb=>b.number != k) else l.map λb=>if b.number=k then { b with left:=q } else b
theorem zjy (l:List Bid) (r:Bid) (k:Nat) (q:Int):zcu (l++[r]) k q=zcu l k q++(if r.number=k then (if 0 < q then [{ r with left:=q }] else []) else [r]):=by
 unfold zcu
 by_cases hq:q≤0
 ·rw[if_pos hq,if_pos hq,List.filter_append]
  by_cases hk:r.number=k
  ·rw[if_pos hk,if_neg (show ¬0 < q by omega),List.filter_cons_of_neg (by simp [hk])]
   rfl
  ·rw[if_neg hk,List.filter_cons_of_pos (by simp [hk])]
   rfl
 ·rw[if_neg hq,if_neg hq,List.map_append]
  by_cases hk:r.number=k
  ·rw[if_pos hk,if_pos (show 0 < q by omega),List.map_cons,if_pos hk]
   rfl
  ·rw[if_neg hk,List.map_cons,if_neg hk]
   rfl
theorem zg2 (l:List Bid) (k:Nat) (q:Int):(zcu l k q).length≤l.length:=by
 unfold zcu
 split
 ·exact List.length_filter_le _ _
 ·rw[List.length_map];exact Nat.le_refl _
theorem zkr {l:List Bid} {k:Nat} {q:Int} {x:Bid} (h:x∈zcu l k q):∃r∈l,x=r∨(r.number=k∧1≤q∧x={ r with left:=q }):=by
 unfold zcu at h
 split at h
 ·exact⟨x,(List.mem_filter.mp h).1,.inl rfl⟩
 ·obtain⟨r,hr,e⟩:=List.mem_map.mp h
  split at e
  ·exact⟨r,hr,.inr ⟨‹_›,by omega,e.symm⟩⟩
  ·exact⟨r,hr,.inl e.symm⟩
def zeg (l:List Bid):List Nat:=l.map (·.number)
theorem zjz (l:List Bid) (k:Nat) (q:Int):(zeg (zcu l k q)).Sublist (zeg l):=by
 unfold zcu zeg
 split
 ·exact (List.filter_sublist).map _
 ·rw[List.map_map]
  have:((λb:Bid=>b.number) ∘ λb:Bid=>if b.number=k then { b with left:=q } else b)=λb=>b.number:=by
   funext b
   show (if b.number=k then ({ b with left:=q }:Bid) else b).number=b.number
   split <;> rfl
  rw[this]
  exact List.Sublist.refl _
theorem zjX {l:List Bid} (h:(zeg l).Nodup) {x y:Bid} (hx:x∈l) (hy:y∈l) (e:x.number=y.number):x=y:=by
 obtain⟨i,hi⟩:=List.getElem?_of_mem hx
 obtain⟨j,hj⟩:=List.getElem?_of_mem hy
 have ei:(zeg l)[i]? = some x.number:=by unfold zeg;rw[List.getElem?_map,hi];rfl
 have ej:(zeg l)[j]? = some x.number:=by unfold zeg;rw[List.getElem?_map,hj,e];rfl
 have:i=j:=(List.getElem?_inj (List.getElem?_eq_some_iff.mp ei).1 h).mp (ei.trans ej.symm)
 subst this
 rw[hi] at hj
 exact Option.some.inj hj
theorem zkT {l:List Bid} {b:Bid} {q:Int} (hn:(zeg l).Nodup) (hb:b∈l) (hl:∀x∈l,1≤x.left) :
  (l.map λx=>if x.number=b.number then { x with left:=x.left - q } else x).filter (λx=>decide (0 < x.left))=zcu l b.number (b.left - q):=by
 have e:∀x∈l,x.number=b.number→x=b:=λx hx h=>zjX hn hx hb h
 clear hn hb
 induction l with
 | nil=>unfold zcu;split <;> rfl
 | cons x l ih =>
  have ih:=ih (λy hy=>hl y (List.mem_cons_of_mem _ hy)) (λy hy=>e y (List.mem_cons_of_mem _ hy))
  have hx:=hl x (List.mem_cons_self ..)
  unfold zcu at ih ⊢
  rw[List.map_cons]
  by_cases hk:x.number=b.number
  ·have ex:=e x (List.mem_cons_self ..) hk
   subst ex
   rw[if_pos rfl]
   by_cases hq:x.left - q≤0
   ·rw[if_pos hq] at ih ⊢
    rw[List.filter_cons_of_neg (by simp;omega),List.filter_cons_of_neg (by simp),ih]
   ·rw[if_neg hq] at ih ⊢
    rw[List.filter_cons_of_pos (by simp;omega),List.map_cons,if_pos rfl,ih]
  ·rw[if_neg hk]
   rw[List.filter_cons_of_pos (by simp;omega)]
   by_cases hq:b.left - q≤0
   ·rw[if_pos hq] at ih ⊢
    rw[List.filter_cons_of_pos (by simp [hk]),ih]
   ·rw[if_neg hq] at ih ⊢
    rw[List.map_cons,if_neg hk,ih]
def zhI (x y:Bid):Prop:=y.price < x.price∨(x.price=y.price∧x.number≤y.number)
theorem zin (a b:Bid):Vbeman.betterBid a b=true↔b.price < a.price∨(a.price=b.price∧a.number < b.number):=by
 unfold Vbeman.betterBid
 rw[Bool.or_eq_true,Bool.and_eq_true,decide_eq_true_iff,beq_iff_eq,decide_eq_true_iff]
theorem zfo (b:Bid):∀l:List Bid,(Vbeman.putBid b l).Perm (b::l)
 | []=>List.Perm.refl _
 | x::r=>by
  unfold Vbeman.putBid
  split
  ·exact ((zfo b r).cons x).trans (List.Perm.swap ..)
  ·exact List.Perm.refl _
theorem zfE (b:Bid):∀l:List Bid,l.Pairwise zhI→(Vbeman.putBid b l).Pairwise zhI
 | [],_=>List.pairwise_singleton ..
 | x::r,h=>by
  obtain⟨h1,h2⟩:=List.pairwise_cons.mp h
  unfold Vbeman.putBid
  split
  ·rename_i hb
   rw[zin] at hb
   refine List.pairwise_cons.mpr ⟨λy hy=>?_,zfE b r h2⟩
   rcases List.mem_cons.mp ((zfo b r).mem_iff.mp hy) with rfl | hy
   ·rcases hb with hb | hb
    ·exact .inl hb
    ·exact .inr ⟨hb.1,Nat.le_of_lt hb.2⟩
   ·exact h1 y hy
  ·rename_i hb
   rw[zin] at hb
   have hbx:zhI b x:=by
    unfold zhI
    by_cases e:x.price < b.price
    ·exact .inl e
    ·right
     constructor
     ·omega
     ·omega
   refine List.pairwise_cons.mpr ⟨λy hy=>?_,h⟩
   rcases List.mem_cons.mp hy with rfl | hy
   ·exact hbx
   ·have:=h1 y hy
    unfold zhI at this hbx ⊢
    omega
theorem zc5:∀l:List Bid,(Vbeman.ranked l).Perm l
 | []=>List.Perm.refl _
 | b::l=>(zfo b (Vbeman.ranked l)).trans ((zc5 l).cons b)
theorem zfC:∀l:List Bid,(Vbeman.ranked l).Pairwise zhI
 | []=>List.Pairwise.nil
 | b::l=>zfE b _ (zfC l)
theorem zid:∀{l m:List Bid},l.Perm m→l.Pairwise zhI→m.Pairwise zhI→(zeg m).Nodup→l=m
 | [],m,h,_,_,_=>by
  have:=h.length_eq
  exact (List.length_eq_zero_iff.mp this.symm).symm
 | x::l,[],h,_,_,_=>by have:=h.length_eq;simp at this
 | x::l,y::m,h,hl,hm,hn=>by
  obtain⟨a1,a2⟩:=List.pairwise_cons.mp hl
  obtain⟨b1,b2⟩:=List.pairwise_cons.mp hm
  have hx:x∈y::m:=h.mem_iff.mp (List.mem_cons_self ..)
  have hy:y∈x::l:=h.mem_iff.mpr (List.mem_cons_self ..)
  have e:x=y:=by
   rcases List.mem_cons.mp hx with e | hx'
   ·exact e
   ·rcases List.mem_cons.mp hy with e | hy'
    ·exact e.symm
    ·have c1:=a1 y hy'
     have c2:=b1 x hx'
     unfold zhI at c1 c2
     exact zjX hn hx (List.mem_cons_self ..) (by omega)
  subst e
  have hp:l.Perm m:=(List.perm_cons x).mp h
  rw[zid hp a2 b2 (List.nodup_cons.mp (show ((x.number::zeg m)).Nodup from hn)).2]
def zlv (S:House):Option Bid:=(Vbeman.ranked S.bids).find? λb=>decide (0 < Vbeman.mostFor S.zones S.lines S.rights b.source b.sink)
theorem zjc {α β:Type} (f:α→Option β) (p:α→Bool) (g:α→β) (l:List α) (h:∀x∈l,f x=if p x=true then some (g x) else none):l.findSome? f=(l.find? p).map g:=by
 induction l with
 | nil=>rfl
 | cons x l ih =>
  have hx:=h x (List.mem_cons_self ..)
  have ih:=ih λy hy=>h y (List.mem_cons_of_mem _ hy)
  by_cases hp:p x=true
  ·rw[if_pos hp] at hx
   rw[List.findSome?_cons,hx,List.find?_cons_of_pos hp]
   rfl
  ·rw[if_neg hp] at hx
   rw[List.findSome?_cons,hx,List.find?_cons_of_neg hp]
   exact ih
theorem zjm (S:House) (hl:∀b∈S.bids,1≤b.left):Vbeman.winner S=if Vbeman.RIGHTS≤S.rights.length then none else (zlv S).map λb=>(b,min b.left (Vbeman.mostFor S.zones S.lines S.rights b.source b.sink)):=by
 unfold Vbeman.winner zlv
 congr 1
 refine zjc _ _ (λb:Bid=>(b,min b.left (Vbeman.mostFor S.zones S.lines S.rights b.source b.sink))) _ λb hb=>?_
 have:=hl b ((zc5 S.bids).mem_iff.mp hb)
 dsimp only
 by_cases h:0 < Vbeman.mostFor S.zones S.lines S.rights b.source b.sink
 ·rw[if_pos (by omega),if_pos (decide_eq_true h)]
 ·rw[if_neg (by omega),if_neg (by simpa using h)]
def zdh (S:House) (b:Bid) (q:Int):House:={ S with
 rights:=S.rights++[⟨S.nextRight,b.owner,b.source,b.sink,b.option,q⟩],nextRight:=S.nextRight + 1,bids:=zcu S.bids b.number (b.left - q),balances:=Vbeman.pay S.balances b.owner (-(b.price * q)),sales:=S.sales + b.price * q }
theorem zmj (S:House):Vbeman.award 0 S=(S,[]):=rfl
theorem zml {S:House} (k:Nat) (h:Vbeman.winner S=none):Vbeman.award k S=(S,[]):=by
 cases k with
 | zero=>rfl
 | succ k=>unfold Vbeman.award;rw[h]
theorem zmk {S:House} {b:Bid} {q:Int} (k:Nat) (h:Vbeman.winner S=some (b,q)) (hn:(zeg S.bids).Nodup) (hb:b∈S.bids) (hl:∀x∈S.bids,1≤x.left) :
  Vbeman.award (k + 1) S=((Vbeman.award k (zdh S b q)).1,⟨b.number,S.nextRight,q⟩::(Vbeman.award k (zdh S b q)).2):=by
 rw[Vbeman.award,h]
 show ((Vbeman.award k _).1,_)=_
 rw[zkT hn hb hl]
 rfl
theorem zgf (f:Nat→Int):∀(l:List Nat) (b:Nat×Int),b.2=f b.1→(∀x∈l,b.1 < x)→l.Pairwise (· < ·) →
  let m:=l.foldl (λ(m:Nat×Int) X=>if f X < m.2 then (X,f X) else m) b
  m.2=f m.1∧(m.1=b.1∨m.1∈l)∧(∀x∈b.1::l,m.2≤f x)∧∀x∈b.1::l,x < m.1→m.2 < f x
 | [],b,hb,_,_=>by
  refine⟨hb,.inl rfl,λx hx=>?_,λx hx h=>?_⟩
  ·rw[List.mem_singleton.mp hx];exact Int.le_of_eq hb
  ·rw[List.mem_singleton.mp hx] at h;exact absurd h (Nat.lt_irrefl _)
 | y::l,b,hb,hlt,hs=>by
  obtain⟨s1,s2⟩:=List.pairwise_cons.mp hs
  have hby:=hlt y (List.mem_cons_self ..)
  rw[List.foldl_cons]
  by_cases h:f y < b.2
  ·rw[if_pos h]
   obtain⟨r1,r2,r3,r4⟩:=zgf f l (y,f y) rfl s1 s2
   refine⟨r1,?_,λx hx=>?_,λx hx hxm=>?_⟩
   ·rcases r2 with r2 | r2
    ·right;rw[r2];exact List.mem_cons_self ..
    ·right;exact List.mem_cons_of_mem _ r2
   ·rcases List.mem_cons.mp hx with rfl | hx
    ·have:=r3 y (List.mem_cons_self ..)
     omega
    ·exact r3 x hx
   ·rcases List.mem_cons.mp hx with rfl | hx
    ·have:=r3 y (List.mem_cons_self ..)
     omega
    ·exact r4 x hx hxm
  ·rw[if_neg h]
   obtain⟨r1,r2,r3,r4⟩:=zgf f l b hb (λx hx=>hlt x (List.mem_cons_of_mem _ hx)) s2
   refine⟨r1,?_,λx hx=>?_,λx hx hxm=>?_⟩
   ·rcases r2 with r2 | r2
    ·exact .inl r2
    ·right;exact List.mem_cons_of_mem _ r2
   ·rcases List.mem_cons.mp hx with rfl | hx
    ·exact r3 _ (List.mem_cons_self ..)
    ·rcases List.mem_cons.mp hx with rfl | hx
     ·have:=r3 b.1 (List.mem_cons_self ..)
      omega
     ·exact r3 x (List.mem_cons_of_mem _ hx)
   ·rcases List.mem_cons.mp hx with rfl | hx
    ·exact r4 _ (List.mem_cons_self ..) hxm
    ·rcases List.mem_cons.mp hx with rfl | hx
     ·have:=r4 b.1 (List.mem_cons_self ..) (by omega)
      omega
     ·exact r4 x (List.mem_cons_of_mem _ hx) hxm
def lookedAt (n:Nat) (f:Nat→Int):List Int:=(List.range (2 ^ n - 2)).map λj=>f (j + 1)
theorem zof {S:House} {m:Int} {j:Nat} (hz:2≤S.zones) (hj:(lookedAt S.zones λX=>Vbeman.slack X S.lines S.rights)[j]? = some m) (hm:∀y∈lookedAt S.zones λX=>Vbeman.slack X S.lines S.rights,m≤y)
  (hf:∀i y,i < j→(lookedAt S.zones λX=>Vbeman.slack X S.lines S.rights)[i]? = some y→y≠m):Vbeman.tightest S=(j + 1,m):=by
 have h4:4≤2 ^ S.zones:=by
  have:=Nat.pow_le_pow_right (n:=2) (by decide) hz
  exact this
 have e1:Vbeman.tightest S=((List.range (2 ^ S.zones - 3)).map (· + 2)).foldl (λ(m:Nat×Int) X=>if Vbeman.slack X S.lines S.rights < m.2 then (X,Vbeman.slack X S.lines S.rights) else m) (1,Vbeman.slack 1 S.lines S.rights):=by
  unfold Vbeman.tightest Vbeman.groups
  have e2:(List.range (2 ^ S.zones)).drop 2=((List.range (2 ^ S.zones - 3)).map (· + 2))++[2 ^ S.zones - 1]:=by
   apply List.ext_getElem?
   intro i
   rw[List.getElem?_drop]
   by_cases h1:i < 2 ^ S.zones - 3
   ·rw[List.getElem?_append_left (by rw[List.length_map,List.length_range];exact h1),List.getElem?_map,List.getElem?_range h1,List.getElem?_range (by omega)]
    show some (2 + i)=some (i + 2)
    rw[Nat.add_comm]
   ·rw[List.getElem?_append_right (by rw[List.length_map,List.length_range];omega),List.length_map,List.length_range]
    by_cases h2:i=2 ^ S.zones - 3
    ·subst h2
     rw[Nat.sub_self,List.getElem?_range (by omega)]
     show some _=some _
     congr 1
     omega
    ·rw[List.getElem?_eq_none (by rw[List.length_range];omega),List.getElem?_eq_none (by rw[List.length_singleton];omega)]
  rw[e2,List.foldl_append,List.foldl_cons,List.foldl_nil,if_pos (by omega)]
  have congr_fold:∀(l:List Nat) (b:Nat×Int),(∀x∈l,¬x + 1=2 ^ S.zones)→l.foldl (λ(m:Nat×Int) X=>if X + 1=2 ^ S.zones then m else let s:=Vbeman.slack X S.lines S.rights;if s < m.2 then (X,s) else m) b=l.foldl (λ(m:Nat×Int) X=>if Vbeman.slack X S.lines S.rights < m.2 then (X,Vbeman.slack X S.lines S.rights) else m) b:=by
   intro l
   induction l with
   | nil=>intro b _;rfl
   | cons x l ih =>
    intro b hb
    rw[List.foldl_cons,List.foldl_cons,if_neg (hb x (List.mem_cons_self ..))]
    exact ih _ λy hy=>hb y (List.mem_cons_of_mem _ hy)
  refine congr_fold _ _ λx hx=>?_
  obtain⟨y,hy,e⟩:=List.mem_map.mp hx
  have hy:=List.mem_range.mp hy
  show ¬x + 1=2 ^ S.zones
  have e:y + 2=x:=e
  omega
 rw[e1]
 have key:=zgf (λX=>Vbeman.slack X S.lines S.rights) ((List.range (2 ^ S.zones - 3)).map (· + 2)) (1,Vbeman.slack 1 S.lines S.rights) rfl (λx hx=>by
  obtain⟨y,hy,e⟩:=List.mem_map.mp hx
  have e:y + 2=x:=e
  show 1 < x
  omega) (by
  rw[List.pairwise_map]
  exact List.Pairwise.imp (λh=>by omega) List.pairwise_lt_range)
 generalize (((List.range (2 ^ S.zones - 3)).map (· + 2)).foldl (λ(m:Nat×Int) X=>if Vbeman.slack X S.lines S.rights < m.2 then (X,Vbeman.slack X S.lines S.rights) else m) (1,Vbeman.slack 1 S.lines S.rights))=r at key
 obtain⟨k1,k2,k3,k4⟩:=key
 have mem_iff:∀X,X∈1::((List.range (2 ^ S.zones - 3)).map (· + 2))↔1≤X∧X≤2 ^ S.zones - 2:=by
  intro X
  rw[List.mem_cons,List.mem_map]
  constructor
  ·rintro (rfl | ⟨y,hy,rfl⟩)
   ·omega
   ·have:=List.mem_range.mp hy
    omega
  ·intro h
   by_cases h1:X=1
   ·exact .inl h1
   ·exact .inr ⟨X - 2,List.mem_range.mpr (by omega),by show X - 2 + 2=X;omega⟩
 have at_get:∀i:Nat,i < 2 ^ S.zones - 2→(lookedAt S.zones λX=>Vbeman.slack X S.lines S.rights)[i]? = some (Vbeman.slack (i + 1) S.lines S.rights):=by
  intro i hi
  unfold lookedAt
  rw[List.getElem?_map,List.getElem?_range hi]
  rfl
 have hjl:j < 2 ^ S.zones - 2:=by
  have:=(List.getElem?_eq_some_iff.mp hj).1
  unfold lookedAt at this
  rwa [List.length_map,List.length_range] at this
 have em:m=Vbeman.slack (j + 1) S.lines S.rights:=by
  rw[at_get j hjl] at hj
  exact (Option.some.inj hj).symm
 have hr1:1≤r.1∧r.1≤2 ^ S.zones - 2:=by
  apply (mem_iff r.1).mp
  rcases k2 with k2 | k2
  ·rw[k2];exact List.mem_cons_self ..
  ·exact List.mem_cons_of_mem _ k2
 have a1:=k3 (j + 1) ((mem_iff _).mpr (by omega))
 have a2:=hm (Vbeman.slack r.1 S.lines S.rights) (List.mem_of_getElem? (i:=r.1 - 1) (by rw[at_get (r.1 - 1) (by omega)];congr 2;omega))
 have hle:¬r.1 < j + 1:=λz=>by
  have:=hf (r.1 - 1) _ (by omega) (at_get (r.1 - 1) (by omega))
  apply this
  have e:r.1 - 1 + 1=r.1:=by omega
  rw[e]
  rw[k1] at a1
  have a1:Vbeman.slack r.1 S.lines S.rights≤Vbeman.slack (j + 1) S.lines S.rights:=a1
  omega
 have hge:¬j + 1 < r.1:=λz=>by
  have:=k4 (j + 1) ((mem_iff _).mpr (by omega)) z
  have:r.2 < Vbeman.slack (j + 1) S.lines S.rights:=this
  rw[k1] at this
  have:Vbeman.slack r.1 S.lines S.rights < Vbeman.slack (j + 1) S.lines S.rights:=this
  omega
 have er:r.1=j + 1:=by omega
 refine Prod.ext er ?_
 show r.2=m
 rw[k1,em,er]
theorem zj2:∀(g:List Int) (c:Nat),(∀x∈g,x=0∨x=1)→Vbeman.total ((g.zip ((List.range g.length).map λi=>((2 ^ (c + i):Nat):Int))).map λp=>p.1 * p.2)=((2 ^ c * Vbeman.groupOf g:Nat):Int)
 | [],c,_=>by show (0:Int)=((2 ^ c * 0:Nat):Int);rw[Nat.mul_zero];rfl
 | x::g,c,h=>by
  have ih:=zj2 g (c + 1) λy hy=>h y (List.mem_cons_of_mem _ hy)
  have hx:=h x (List.mem_cons_self ..)
  rw[List.length_cons,List.range_succ_eq_map,List.map_cons,List.zip_cons_cons,List.map_cons,zfX,List.map_map]
  have e:((λi=>((2 ^ (c + i):Nat):Int)) ∘ Nat.succ)=λi=>((2 ^ (c + 1 + i):Nat):Int):=by
   funext i
   show ((2 ^ (c + (i + 1)):Nat):Int)=_
   rw[show c + (i + 1)=c + 1 + i by omega]
  rw[e,ih]
  show x * ((2 ^ (c + 0):Nat):Int) + _=((2 ^ c * (2 * Vbeman.groupOf g + x.toNat):Nat):Int)
  rw[Nat.add_zero,Nat.mul_add,←Nat.mul_assoc,Nat.pow_succ]
  rcases hx with rfl | rfl
  ·rw[Int.zero_mul,Int.zero_add]
   show _=((2 ^ c * 2 * Vbeman.groupOf g + 2 ^ c * 0:Nat):Int)
   rw[Nat.mul_zero,Nat.add_zero]
  ·rw[Int.one_mul]
   show _=((2 ^ c * 2 * Vbeman.groupOf g + 2 ^ c * 1:Nat):Int)
   rw[Nat.mul_one]
   omega
theorem zlu (p:List Int):∀(ls:List Line) (fs:List Int),fs.length=ls.length→Vbeman.fitsAll p ls fs=(ls.zip fs).all λx=>Vbeman.fits p x.1 x.2
 | [],[],_=>rfl
 | [],_::_,h=>by simp at h
 | _::_,[],h=>by simp at h
 | l::ls,f::fs,h=>by
  rw[List.zip_cons_cons,List.all_cons,←zlu p ls fs (by simpa using h)]
  rfl
end Z
namespace L2
open PySem PySem.Spec PyProof.Rows
theorem zjF {α β:Type} {f:α→β} {l m:List β} (h:l.Perm m):∀t:List α,m=t.map f→∃t':List α,t'.Perm t∧l=t'.map f:=by
 induction h with
 | nil =>
  intro t e
  cases t with
  | nil=>exact⟨[],.nil,rfl⟩
  | cons _ _=>cases e
 | cons x h ih =>
  intro t e
  cases t with
  | nil=>cases e
  | cons y t =>
   rw[List.map_cons] at e
   injection e with e1 e2
   obtain⟨t',h1,h2⟩:=ih t e2
   exact⟨y::t',h1.cons y,by rw[List.map_cons,h2,e1]⟩
 | swap x y l =>
  intro t e
  match t,e with
  | [],e=>cases e
  | [_],e=>cases e
  | a::b::t,e =>
   rw[List.map_cons,List.map_cons] at e
   injection e with e1 e2
   injection e2 with e2 e3
   exact⟨b::a::t,List.Perm.swap ..,by rw[List.map_cons,List.map_cons,e1,e2,e3]⟩
 | trans h1 h2 ih1 ih2 =>
  intro t e
  obtain⟨t2,a,b⟩:=ih2 t e
  obtain⟨t1,c,d⟩:=ih1 t2 b
  exact⟨t1,c.trans a,d⟩
def zkU (p q:(Int×Int)×Addr):Prop:=p.1.1 < q.1.1∨(p.1.1=q.1.1∧p.1.2≤q.1.2)
def zj0:Nat→Bool:=λ_=>false
theorem zq7 {a b:Int×Int} {x y:Addr} (h:(listOrd itemOrd).kle [Sum.inl a.1,Sum.inl a.2] [Sum.inl b.1,Sum.inl b.2]):zkU (a,x) (b,y):=by
 have h:lexLt itemOrd [Sum.inl b.1,Sum.inl b.2] [Sum.inl a.1,Sum.inl a.2]=false:=h
 obtain⟨h1,h2⟩:=lex_false.mp h
 have h1:decide (b.1 < a.1)=false:=h1
 have h1:=of_decide_eq_false h1
 unfold zkU
 show a.1 < b.1∨(a.1=b.1∧a.2≤b.2)
 rcases h2 with h2 | h2
 ·have h2:decide (a.1 < b.1)=true:=h2
  have h2:=of_decide_eq_true h2
  exact .inl h2
 ·obtain⟨h3,_⟩:=lex_false.mp h2
  have h3:decide (b.2 < a.2)=false:=h3
  have h3:=of_decide_eq_false h3
  by_cases h4:a.1 < b.1
  ·exact .inl h4
  ·right
   constructor <;> omega
section
variable {X : Cx} {pins : List (Addr × Obj)} {σ : St} {H : Hp} {s : Shared}
theorem Inv.adopt {t':Nat} {D:Addr} {ob:HO} {h':Heap} (I:Inv X pins σ H s) (k:∀b o,b≠D→s.heap.get? b=some o→h'.get? b=some o) (hf:zh1 X pins H D)
    (new:ObjOk X.prog X.w (L2.upd H D ob) h' D ob):Inv X pins σ (L2.upd H D ob) { s with heap:=h',toks:=t' }:=by
  have hn:H D=none:=hf.1
  have nm:∀b:Addr,b ∉ [D]→b≠D:=λb hc z=>hc (List.mem_singleton.mpr z)
  refine I.step (g':=s.gens) (d':=s.drawn) (ch:=[D]) (λb hb=>by rw[List.mem_singleton.mp hb];exact⟨hf.2.2.2.1,hf.2.1,hf.2.2.2.2.1,hf.2.2.2.2.2⟩) (λb o _ _ hc e _=>k b o (nm b hc) e) (λb o _ _ hc e _=>⟨o.slots,k b o (nm b hc) e⟩)
    (λb o hc e n=>by rw[zbL (nm b hc)];exact n) (λb o hc e=>⟨o,k b o (nm b hc) e⟩) (λb xs e=>by rw[zbL (zbI e hn)];exact e) (λb o u e=>by rw[zbL (zbI e hn)];exact e) (λb ps e=>⟨#[],by rw[zbL (zbI e hn),e];simp⟩) (λm hm=>by
      (obtain⟨o,es,ep,ho,r⟩:=hm);exact⟨o,es,ep,k _ o (Ne.symm hf.2.1) ho,r⟩) (λb u e=>?_) I.bare
  by_cases hb:b=D
  · (subst hb;rw[zbG] at e);cases e;exact new
  · rw[zbL hb] at e
    refine (I.hok b u e).stay (λc v hc q=>k c v (hc.elim (λz=>by rw[z];exact zbI e hn) λz=>zbI z hn) q) (λc q=>by rw[zbL (zbI q hn)];exact q) λc xs q=>by rw[zbL (zbI q hn)];exact q
abbrev Tri:=Addr×((Int×Int)×Addr)
def zpc (t:Tri):Keyed:=(Value.ref t.1,Value.ref t.2.2)
variable {D kS : Addr} {e1 e : Nat} {Ts : List Addr} {A : Around} {E : Value → Shared → Prop} {P : PySem.Fin → Shared → Prop}
theorem zoj {st:SortSt} {l3:List Tri} (I:Inv X ((D,seqObj "list" #[] e1)::(kS,seqObj "list" (Ts.map Value.ref).toArray e)::pins) σ H s) (hfD:∀H,H D=none→zh1 X pins H D) (hfk:∀H,H kS=none→zh1 X pins H kS) (hka:kS≠D)
  (hz:Ts.length≤1000) (hout:(arrOf st).toList=l3.map zpc) (h3:l3.length≤1000) (hfl:failedOf st=none)
  (h:∀s',Inv X pins σ (L2.upd H D (.lst (l3.map λt=>V.ref t.2.2))) s'→P (.done (.ret .none)) s'):wpAny (model X.prog X.w) A (ksk_tail D false e1 (.ref kS) st) P E s:=by
 have pD:=I.pin (D,seqObj "list" #[] e1) (List.mem_append_right _ (List.mem_cons_self ..))
 have pK:=I.pin (kS,seqObj "list" (Ts.map Value.ref).toArray e) (List.mem_append_right _ (List.mem_cons_of_mem _ (List.mem_cons_self ..)))
 have I0:Inv X pins σ H s:=I.pins_of λp hp=>I.pin p (List.mem_append_right _ (List.mem_cons_of_mem _ (List.mem_cons_of_mem _ hp)))
 have hsz:(Ts.map Value.ref).toArray.size≤sizeLine:=by rw[List.size_toArray,List.length_map,sizeLine_eq];omega
 have ea:((arrOf st).map (·.2))=(l3.map λt=>Value.ref t.2.2).toArray:=by
  apply Array.toList_inj.mp
  rw[Array.toList_map,hout,List.map_map]
  rfl
 have hs2:((arrOf st).map (·.2)).size≤sizeLine:=by rw[ea,List.size_toArray,List.length_map,sizeLine_eq];omega
 have sb1:=Heap.SameBut.update s.heap kS (Obj.mapSeq λ_=>(#[]:Array Value))
 have na1:=(sb1.2 D hka.symm).trans pD.1
 have sb2:=Heap.SameBut.update (s.heap.update kS (Obj.mapSeq λ_=>(#[]:Array Value))) D (Obj.mapSeq λ_=>(arrOf st).map (·.2))
 have gD:=get?_update_seq na1 λ_=>(arrOf st).map (·.2)
 have fk:=hfk H pK.2.1
 have I1:=I0.turned (t':=s.toks) (h':=s.heap.update kS (Obj.mapSeq λ_=>(#[]:Array Value))) (it:=kS) (λb o hb q=>(sb1.2 b hb).trans q) fk.1 fk.2.1 fk.2.2.2.1 fk.2.2.2.2.1 fk.2.2.2.2.2
 have I2:=I1.adopt (t':=s.toks) (D:=D) (ob:=.lst (l3.map λt=>V.ref t.2.2)) (h':=(s.heap.update kS (Obj.mapSeq λ_=>(#[]:Array Value))).update D (Obj.mapSeq λ_=>(arrOf st).map (·.2))) (λb o hb q=>(sb2.2 b hb).trans q) (hfD H pD.2.1)
  ⟨by rw[List.length_map,sizeLine_eq];omega,l3.map (λt=>Value.ref t.2.2),_,(by
   clear hout h3 ea h hs2 sb2 gD
   induction l3 with
   | nil=>exact .nil
   | cons t r ih=>exact .cons rfl ih),by rw[←ea];exact gD⟩
 unfold ksk_tail
 dsimp only
 refine wpAny_bind (listUpdate_at pK.1 rfl (wpAny_bind (wpAny_letGo (wpAny_bind (seqEpoch_at na1 rfl (wpAny_bind (listUpdate_at na1 rfl ?_ (Nat.zero_le _) (Nat.le_succ_of_le hs2))))))) hsz (Nat.zero_le _))
 rw[hfl]
 simp only [bne_self_eq_false,Bool.false_eq_true,if_false]
 exact wpAny_pure (h _ I2)
theorem zgb {T:Addr} {k:Int×Int} (I:Inv X pins σ H s) (hT:H T=some (.tup [.int k.1,.int k.2])):G.tupKeyC s.heap zj0 (.ref T)=some [Sum.inl k.1,Sum.inl k.2]∧∃f,TupOf s.heap zj0 (.ref T) f:=by
 obtain⟨its,rv,p,_⟩:=I.tuple (SqT.of hT)
 obtain⟨t,u,rfl⟩:=Vals.int2 rv
 obtain⟨o,ho,hc,n,hd⟩:=p
 refine⟨?_,_,T,o,_,n,rfl,ho,hc,hd,rfl,λ_=>⟨_,_,rfl⟩,λz=>by cases z⟩
 unfold G.tupKeyC
 have h1:G.isTupObj s.heap (.ref T)=true:=by
  unfold G.isTupObj
  simp only [ho,hc]
  rfl
 rw[if_pos h1]
 unfold tupKey
 simp only [ho,hd]
 rfl
theorem zmw (I:Inv X pins σ H s):∀Ts:List Addr,(∀T∈Ts,∃k:Int×Int,H T=some (.tup [.int k.1,.int k.2]))→∃fs:List Value,fs.length=Ts.length∧TupsOf s.heap zj0 (Ts.map Value.ref) fs
 | [],_=>⟨[],rfl,.nil⟩
 | T::Ts,hall=>by
  obtain⟨k,hk⟩:=hall T (List.mem_cons_self ..)
  obtain⟨f,hf⟩:=(zgb I hk).2
  obtain⟨fs,h1,h2⟩:=zmw I Ts λT hT=>hall T (List.mem_cons_of_mem _ hT)
  exact⟨f::fs,by rw[List.length_cons,List.length_cons,h1],.cons hf h2⟩
theorem zpK {as:List Addr} {ks:List (Int×Int)} (I:Inv X ((D,seqObj "list" #[] e1)::(kS,seqObj "list" (Ts.map Value.ref).toArray e)::pins) σ H s) (hfD:∀H,H D=none→zh1 X pins H D) (hfk:∀H,H kS=none→zh1 X pins H kS) (hka:kS≠D)
  (hl1:Ts.length=as.length) (hl2:ks.length=as.length) (hz:as.length≤1000) (hT:∀(j:Nat) T k,Ts[j]? = some T→ks[j]? = some k→H T=some (.tup [.int k.1,.int k.2]))
  (h:∀(ps:List ((Int×Int)×Addr)) s',ps.Perm (ks.zip as)→ps.Pairwise zkU→Inv X pins σ (L2.upd H D (.lst (ps.map λp=>V.ref p.2))) s'→P (.done (.ret .none)) s') :
  wpAny (model X.prog X.w) A (ksk_end D false (as.map Value.ref).toArray e1 (.ref kS) (Ts.map Value.ref).toArray) P E s:=by
 let tri:List Tri:=Ts.zip (ks.zip as)
 have hlt:tri.length=as.length:=by
  show (Ts.zip (ks.zip as)).length=_
  rw[List.length_zip,List.length_zip];omega
 have ez:((Ts.map Value.ref).toArray.zip (as.map Value.ref).toArray).toList=tri.map zpc:=by
  rw[ksk_zip]
  show ((Ts.map Value.ref).toArray.toList).zip (as.map Value.ref)=(Ts.zip (ks.zip as)).map zpc
  rw[List.toList_toArray]
  clear hT h hlt tri I hz
  induction Ts generalizing ks as with
  | nil=>rfl
  | cons T Ts ih =>
   match ks,as,hl1,hl2 with
   | k::ks,a::as,hl1,hl2 =>
    have ih:=ih (as:=as) (ks:=ks) (by simpa using hl1) (by simpa using hl2)
    show (Value.ref T,Value.ref a)::((Ts.map Value.ref).zip (as.map Value.ref))=zpc (T,(k,a))::((Ts.zip (ks.zip as)).map zpc)
    rw[ih]
    rfl
   | [],a::as,hl1,hl2=>simp at hl2
   | _,[],hl1,hl2=>simp at hl1
 have htri:∀t∈tri,H t.1=some (.tup [.int t.2.1.1,.int t.2.1.2]):=λt ht=>by
  obtain⟨j,hj⟩:=List.getElem?_of_mem ht
  have hj:(Ts.zip (ks.zip as))[j]? = some (t.1,t.2):=hj
  rw[List.getElem?_zip_eq_some] at hj
  have h2:=hj.2
  have h2:(ks.zip as)[j]? = some (t.2.1,t.2.2):=h2
  rw[List.getElem?_zip_eq_some] at h2
  exact hT j _ _ hj.1 h2.1
 have esnd:tri.map (·.2)=ks.zip as:=by
  show (Ts.zip (ks.zip as)).map Prod.snd=_
  rw[List.map_snd_zip]
  rw[List.length_zip];omega
 have go:∀(st:SortSt) (l3:List Tri),l3.Perm tri→(arrOf st).toList=l3.map zpc→failedOf st=none→(l3.map (·.2)).Pairwise zkU→wpAny (model X.prog X.w) A (ksk_tail D false e1 (.ref kS) st) P E s:=λst l3 hp ho hf hw=>by
  refine zoj I hfD hfk hka (by omega) ho (by rw[hp.length_eq,hlt];exact hz) hf λs' I'=>?_
  refine h (l3.map (·.2)) s' (by rw[←esnd];exact hp.map _) hw ?_
  rw[List.map_map]
  exact I'
 unfold ksk_end
 dsimp only
 rw[if_neg Bool.false_ne_true,if_neg Bool.false_ne_true]
 by_cases h2:(as.map Value.ref).toArray.size < 2
 ·rw[if_pos h2,if_pos h2]
  refine wpAny_bind (wpAny_pure ?_)
  rw[StateT.run_pure]
  refine wpAny_bind (wpAny_pure (go _ tri (List.Perm.refl _) ez rfl ?_))
  rw[List.size_toArray,List.length_map] at h2
  match htr:tri,hlt with
  | [],_=>exact List.Pairwise.nil
  | [t],_=>exact List.pairwise_singleton ..
  | _::_::_,hlt=>simp at hlt;omega
 ·rw[if_neg h2,if_neg h2]
  rw[List.size_toArray,List.length_map] at h2
  have hall:∀T∈Ts,∃k:Int×Int,H T=some (.tup [.int k.1,.int k.2]):=λT hm=>by
   obtain⟨j,hj⟩:=List.getElem?_of_mem hm
   have hjl:j < ks.length:=by have:=(List.getElem?_eq_some_iff.mp hj).1;omega
   exact⟨ks[j],hT j T _ hj (List.getElem?_eq_getElem hjl)⟩
  obtain⟨fs,hfs,htu⟩:=zmw I Ts hall
  refine wpAny_bind (tup_kind (by omega) htu ?_)
  have hss:((Ts.map Value.ref).toArray.zip (as.map Value.ref).toArray).size=as.length:=by
   rw[←Array.length_toList,ez,List.length_map,hlt]
  refine wpAny_bind (wpAny_mono (G.wpS_sortRunsSt (κ:=G.tupKindC s.heap zj0) (kd:=tuples' true) (a₀:=(Ts.map Value.ref).toArray.zip (as.map Value.ref).toArray)
   (st:=SortSt.mk' (tuples' true) ((Ts.map Value.ref).toArray.zip (as.map Value.ref).toArray) #[] 7 none)
   (Q:=λ_ st'=>(arrOf st').Perm ((Ts.map Value.ref).toArray.zip (as.map Value.ref).toArray)∧failedOf st'=none∧SortedToK (G.tupKindC s.heap zj0) (arrOf st') as.length)
   (G.tupC_ltAt true (G.KeepsTups.refl _)) ?hkeys ⟨Array.Perm.refl _,rfl,rfl⟩ rfl (Stable.refl _) (by rw[hss];omega)
   λst' a1 a2 a3 _=>⟨a1,a2,by rw[hss] at a3;exact a3⟩) ?_ λ_ _ e=>e)
  case hkeys =>
   intro p hp
   rw[ez] at hp
   obtain⟨t,ht,rfl⟩:=List.mem_map.mp hp
   exact⟨_,(zgb I (k:=t.2.1) (htri t ht)).1⟩
  rintro ⟨⟨⟩,st'⟩ s' ⟨rfl,hp,hf,hs⟩
  obtain⟨l3,hl3,el3⟩:=zjF (f:=zpc) (Array.perm_iff_toList_perm.mp hp) tri ez
  refine go st' l3 hl3 el3 hf ?_
  rw[List.pairwise_map,List.pairwise_iff_getElem]
  intro i j hi hj hij
  have hlen:l3.length=as.length:=by rw[hl3.length_eq,hlt]
  have hk:=hs i j (Nat.le_of_lt hij) (by omega)
  have key:∀(n:Nat) (hn:n < l3.length),KK (G.tupKindC s'.heap zj0) (arrOf st') n=[Sum.inl l3[n].2.1.1,Sum.inl l3[n].2.1.2]:=λn hn=>by
   have e1:(arrOf st')[n]? = some (zpc l3[n]):=by
    rw[←Array.getElem?_toList,el3,List.getElem?_map,List.getElem?_eq_getElem hn]
    rfl
   unfold KK
   rw[e1]
   have:=(zgb I (k:=l3[n].2.1) (htri _ (hl3.mem_iff.mp (List.getElem_mem hn)))).1
   show ((G.tupKindC s'.heap zj0).keyOf (Value.ref l3[n].1)).getD _=_
   show (G.tupKeyC s'.heap zj0 (Value.ref l3[n].1)).getD _=_
   rw[this]
   rfl
  rw[key i hi,key j hj] at hk
  exact zq7 hk
def zpq (K:PySem.W.Frag) (sp:Sp):V→Hp→VK→Prop:=λx H Q=>∃(a:Addr) (as:List Addr) (ks:List (Int×Int)),x=.ref a∧SqL K H a (as.map V.ref)∧ks.length=as.length∧as.length≤1000 ∧
 (∀(i:Nat) b k H2 (Q':VK),as[i]? = some b→ks[i]? = some k→Same H H2→(∀H3 T,Same H2 H3→H3 T=some (.tup [.int k.1,.int k.2])→Q' (.ref T) H3)→sp [.ref b] H2 Q' E0) ∧
 ∀(ps:List ((Int×Int)×Addr)) H2 D,ps.Perm (ks.zip as)→ps.Pairwise zkU→H D=none→Same H H2→H2 D=some (.lst (ps.map λp=>V.ref p.2))→Q (.ref D) H2
variable {k : Nat} {f : Addr} {fd : FuncData} {pr : List Str} {sp : Sp}
theorem zok {as:List Addr} {ks:List (Int×Int)} (F:FnOk X.prog X.w X.K X.mg X.base CX0 k f fd pr sp) (hr:Room k A) (hfr:A.frames=X.A.frames) (hb:Binds X.K fd pr [])
  (I:Inv X ((D,seqObj "list" #[] e1)::(kS,seqObj "list" #[] 0)::pins) σ H s) (hfD:∀H,H D=none→zh1 X pins H D) (hfk:∀H,H kS=none→zh1 X pins H kS) (hka:kS≠D)
  (hl2:ks.length=as.length) (hz:as.length≤1000)
  (hk:∀(i:Nat) b k H2 (Q':VK),as[i]? = some b→ks[i]? = some k→Same H H2→(∀H3 T,Same H2 H3→H3 T=some (.tup [.int k.1,.int k.2])→Q' (.ref T) H3)→sp [.ref b] H2 Q' E0)
  (h:∀(ps:List ((Int×Int)×Addr)) H2 s',Same H H2→H2 D=none→ps.Perm (ks.zip as)→ps.Pairwise zkU→Inv X pins σ (L2.upd H2 D (.lst (ps.map λp=>V.ref p.2))) s'→P (.done (.ret .none)) s') :
  wpAny (model X.prog X.w) A (ksk_rest D (.ref f) false (as.map Value.ref).toArray e1 (.ref kS)) P E s:=by
 unfold ksk_rest
 refine wpAny_bind (wpAny_rule ?_)
 rw[List.forIn_toArray]
 refine wpAny_bind (ksk_fold (λi s'=>∃H' e Ts,Inv X ((D,seqObj "list" #[] e1)::(kS,seqObj "list" (List.toArray (List.map Value.ref Ts)) e)::pins) σ H' s'∧Same H H'∧Ts.length=i∧∀(j:Nat) T k,Ts[j]? = some T→ks[j]? = some k→H' T=some (.tup [.int k.1,.int k.2])) (as.map Value.ref) 0 s
  ⟨H,0,[],I,Same.refl _,rfl,λj T k z=>by simp at z⟩ ?step ?done)
 case step =>
  rintro j x s' hx ⟨H',e,Ts,I',sm,hlen,hT⟩
  rw[Nat.zero_add] at hlen ⊢
  rw[List.getElem?_map] at hx
  cases ea:as[j]? with
  | none=>rw[ea] at hx;cases hx
  | some b =>
   rw[ea] at hx
   cases hx
   have hj:j < as.length:=(List.getElem?_eq_some_iff.mp ea).1
   have ekj:ks[j]? = some ks[j]:=List.getElem?_eq_getElem (by omega)
   have hsp:=hk j b ks[j] H' (λv H3=>∃T,v=.ref T∧Same H' H3∧H3 T=some (.tup [.int ks[j].1,.int ks[j].2])) ea ekj sm λH3 T a1 a2=>⟨T,rfl,a1,a2⟩
   have r1:Vals [V.ref b] [Value.ref b]:=.cons rfl .nil
   have hl:([Value.ref b]++[]).length=pr.length:=(F.len _ _ _ _ hsp)
   have ev:Env0 X.prog X.w X.K X.mg X.base A X.stack s' H':=⟨hfr.trans I'.env0.frames,I'.env0.mod,I'.env0.bs,I'.env0.bsz,I'.env0.funs,I'.env0.frf,I'.env0.hok,I'.env0.bare⟩
   refine wpAny_bind (wpAny_attempt (wpAny_call (codeAny_mono (F.run A X.stack s' H' ⟨[.ref b],[]⟩ [.ref b] [.ref b] _ E0 hr ev (hb s' [.ref b] I'.kIn hl) r1 hsp) λr s2 hq=>?_)))
   cases r with
   | error e=>exact False.elim hq
   | ok fl =>
    cases fl with
    | next=>exact False.elim hq
    | brk=>exact False.elim hq
    | cont=>exact False.elim hq
    | ret u =>
     obtain⟨v,H3,I3,rv,T,rfl,s3,hT3⟩:=I'.after hq
     obtain rfl:u=Value.ref T:=rv
     dsimp only
     have pD:=I3.pin (D,seqObj "list" #[] e1) (List.mem_append_right _ (List.mem_cons_self ..))
     have pK:=I3.pin (kS,seqObj "list" (List.toArray (List.map Value.ref Ts)) e) (List.mem_append_right _ (List.mem_cons_of_mem _ (List.mem_cons_self ..)))
     have I0:Inv X pins σ H3 s2:=I3.pins_of λp hp=>I3.pin p (List.mem_append_right _ (List.mem_cons_of_mem _ (List.mem_cons_of_mem _ hp)))
     have sb:=Heap.SameBut.update s2.heap kS (Obj.mapSeq (·.push (Value.ref T)))
     have gk:=get?_update_seq pK.1 (·.push (Value.ref T))
     have fk:=hfk H3 pK.2.1
     have I4:=I0.turned (t':=s2.toks) (h':=s2.heap.update kS (Obj.mapSeq (·.push (Value.ref T)))) (it:=kS) (λb o hb q=>(sb.2 b hb).trans q) fk.1 fk.2.1 fk.2.2.2.1 fk.2.2.2.2.1 fk.2.2.2.2.2
     have ep:(List.toArray (List.map Value.ref Ts)).push (Value.ref T)=List.toArray (List.map Value.ref (Ts++[T])):=by simp
     generalize hep:(if ((List.toArray (List.map Value.ref Ts)).push (Value.ref T)).size == (List.toArray (List.map Value.ref Ts)).size then e else e + 1)=ep2 at gk
     refine wpAny_bind (listUpdate_at pK.1 rfl (wpAny_pure ⟨rfl,H3,ep2,Ts++[T],I4.pins_of (λp hp=>?_),sm.trans s3,by rw[List.length_append,hlen];rfl,λi U k hU hk'=>?_⟩) (by rw[List.size_toArray,List.length_map,sizeLine_eq];omega) (by
      show ((List.toArray (List.map Value.ref Ts)).push (Value.ref T)).size≤_
      rw[Array.size_push,List.size_toArray,List.length_map,sizeLine_eq];omega))
     ·rcases List.mem_cons.mp hp with rfl | hp
      ·exact⟨(sb.2 D hka.symm).trans pD.1,pD.2.1,pD.2.2.1,pD.2.2.2.1,λv z=>by cases z⟩
      ·rcases List.mem_cons.mp hp with rfl | hp
       ·refine⟨?_,pK.2.1,pK.2.2.1,pK.2.2.2.1,λv z=>by cases z⟩
        rw[←ep];exact gk
       ·exact I4.pin p (List.mem_append_right _ hp)
     ·by_cases hi:i < Ts.length
      ·rw[List.getElem?_append_left hi] at hU
       exact s3 _ _ (hT i U k hU hk')
      ·rw[List.getElem?_append_right (by omega)] at hU
       have e0:i - Ts.length=0:=by
        have:=(List.getElem?_eq_some_iff.mp hU).1
        rw[List.length_singleton] at this
        omega
       rw[e0] at hU
       have hU:some T=some U:=hU
       have ei:i=j:=by omega
       rw[ei,ekj] at hk'
       cases hU;cases hk'
       exact hT3
 case done =>
  rintro s' ⟨H',e,Ts,I',sm,hlen,hT⟩
  rw[Nat.zero_add,List.length_map] at hlen
  have pD:=I'.pin (D,seqObj "list" #[] e1) (List.mem_append_right _ (List.mem_cons_self ..))
  have pK:=I'.pin (kS,seqObj "list" (List.toArray (List.map Value.ref Ts)) e) (List.mem_append_right _ (List.mem_cons_of_mem _ (List.mem_cons_self ..)))
  refine wpAny_bind (listItems_at pK.1 rfl ?_)
  exact zpK I' hfD hfk hka hlen hl2 hz hT λps s2 h1 h2 I2=>h ps H' s2 sm pD.2.1 h1 h2 I2
theorem zjp:∀{as:List Addr} {us:List Value},Vals (as.map V.ref) us→us=as.map Value.ref
 | [],_,r=>by cases r;rfl
 | a::as,_,r=>by
  cases r with
  | cons r t=>rw[zjp t];cases r;rfl
theorem zmR {Q:VK} {x:V} {u:Value} (F:FnOk X.prog X.w X.K X.mg X.base CX0 k f fd pr sp) (hr:Room (k + 2) X.A) (hb:Binds X.K fd pr []) (I:Inv X pins σ H s) (ru:RelV x u) (h:zpq X.K sp x H Q) :
  wpAny (model X.prog X.w) X.A (call (.builtin "sorted") [u] [(Str.ofString "key",.ref f)]) (EP X pins σ Q) X.xe s:=by
 obtain⟨a,as,ks,rfl,hs,hl2,hz,hk,q⟩:=h
 obtain rfl:u=Value.ref a:=ru
 obtain⟨its,rv,hl,_⟩:=I.list hs
 have ei:=zjp rv
 subst ei
 have hl:=hl.isList
 have zl:(as.map Value.ref).length≤sizeLine:=by rw[List.length_map,sizeLine_eq];omega
 let hp0:Heap:=(s.heap.push (seqObj "list" #[] 0)).update s.heap.objs.size (Obj.mapSeq (·++(as.map Value.ref).toArray))
 have z0:hp0.objs.size=s.heap.objs.size + 1:=by
  show ((s.heap.push (seqObj "list" #[] 0)).update _ _).objs.size=_
  rw[Heap.size_update,size_push']
 have keep0:∀b o,s.heap.get? b=some o→hp0.get? b=some o:=λb o e=>by
  have hlt:b < s.heap.objs.size:=Heap.lt_size e
  show ((s.heap.push (seqObj "list" #[] 0)).update _ _).get? b=_
  rw[Heap.get?_update_ne _ _ _ _ (Nat.ne_of_lt hlt),Heap.get?_push_ne _ _ _ (Nat.ne_of_lt hlt)]
  exact e
 let hp1:Heap:=hp0.push (seqObj "list" (as.map Value.ref).toArray 0)
 have gD:hp1.get? hp0.objs.size=some (seqObj "list" (as.map Value.ref).toArray 0):=Heap.get?_push_size _ rfl
 have keep1:∀b o,s.heap.get? b=some o→hp1.get? b=some o:=λb o e=>Heap.get?_push_of_some _ (keep0 b o e)
 have z1:hp1.objs.size=hp0.objs.size + 1:=size_push' _ _
 let hp2:Heap:=hp1.update hp0.objs.size (Obj.mapSeq λ_=>(#[]:Array Value))
 have sb2:=Heap.SameBut.update hp1 hp0.objs.size (Obj.mapSeq λ_=>(#[]:Array Value))
 have z2:hp2.objs.size=hp1.objs.size:=Heap.size_update ..
 have g2:∃e1,hp2.get? hp0.objs.size=some (seqObj "list" #[] e1):=⟨_,get?_update_seq gD λ_=>#[]⟩
 obtain⟨e1,g2⟩:=g2
 let hp3:Heap:=hp2.push (seqObj "tuple" (as.map Value.ref).toArray 0)
 have z3:hp3.objs.size=hp2.objs.size + 1:=size_push' _ _
 let hp4:Heap:=hp3.push (seqObj "list" #[] 0)
 have g4:hp4.get? hp3.objs.size=some (seqObj "list" #[] 0):=Heap.get?_push_size _ rfl
 have gD4:hp4.get? hp0.objs.size=some (seqObj "list" #[] e1):=Heap.get?_push_of_some _ (Heap.get?_push_of_some _ g2)
 have keep4:∀b o,s.heap.get? b=some o→hp4.get? b=some o:=λb o e=>by
  have hlt:b < s.heap.objs.size:=Heap.lt_size e
  exact Heap.get?_push_of_some _ (Heap.get?_push_of_some _ ((sb2.2 b (Nat.ne_of_lt (by rw[z0];exact Nat.lt_succ_of_lt hlt))).trans (keep1 b o e)))
 have I4:Inv X pins σ H { s with heap:=hp4 }:=I.kept (t':=s.toks) keep4
 have nD:H hp0.objs.size=none:=I.hok.fresh (by omega)
 have nk:H hp3.objs.size=none:=I.hok.fresh (by omega)
 have hfD:∀H',H' hp0.objs.size=none→zh1 X pins H' hp0.objs.size:=λH' hn=>I.fpOk (by omega) hn
 have hfk:∀H',H' hp3.objs.size=none→zh1 X pins H' hp3.objs.size:=λH' hn=>I.fpOk (by omega) hn
 have IP:Inv X ((hp0.objs.size,seqObj "list" #[] e1)::(hp3.objs.size,seqObj "list" #[] 0)::pins) σ H { s with heap:=hp4 }:=I4.pins_of λp hp=>by
  rcases List.mem_cons.mp hp with rfl | hp
  ·exact⟨gD4,nD,(hfD H nD).2.1,(hfD H nD).2.2.1,λv z=>by cases z⟩
  ·rcases List.mem_cons.mp hp with rfl | hp
   ·exact⟨g4,nk,(hfk H nk).2.1,(hfk H nk).2.2.1,λv z=>by cases z⟩
   ·exact I4.pin p (List.mem_append_right _ hp)
 refine call_function_entry_kw kind_sorted plain_sorted entry_sorted (ksk_s1 _ _) ?_
 unfold Builtin.«sorted»
 refine wpAny_bind (m:=checkCount "sorted" 1 1 _) (wpAny_pure (wpAny_bind (collect_list hl (wpAny_bind (wpAny_newList ?_ zl)) zl)))
 show wpAny _ _ _ _ _ { s with heap:=hp1 }
 refine wpAny_bind (wpAny_holding (wpAny_call_entry_kw slot_list_sort ⟨_,gD,rfl⟩ entry_list_sort ?body (ksk_l1 _ _)))
 case body =>
  show wpAny (model X.prog X.w) X.A.in1.in1 (Builtin.«list.sort» ⟨[.ref hp0.objs.size],[(Str.ofString "key",.ref f)]⟩) _ _ _
  rw[ksk_t1]
  unfold ksk_tree
  refine wpAny_bind (listItems_at gD rfl (wpAny_bind (listUpdate_at gD rfl (wpAny_bind (seqEpoch_at g2 rfl (wpAny_bind (wpAny_newTuple (wpAny_bind (wpAny_newList (wpAny_holding ?_) (Nat.zero_le _))) (by rw[List.toList_toArray];exact zl))))) (by rw[List.size_toArray];exact zl) (Nat.zero_le _))))
  refine zok (s:={ s with heap:=hp4 }) (D:=hp0.objs.size) (kS:=hp3.objs.size) (pins:=pins) F hr.in1.in1 rfl hb IP hfD hfk (Nat.ne_of_gt (by rw[z3,z2,z1];exact Nat.lt_succ_of_lt (Nat.lt_succ_self _))) hl2 hz hk λps H2 s2 sm n2 hp hw I2=>⟨_,rfl,wpAny_pure ⟨_,rfl,?_⟩⟩
  exact⟨.ref hp0.objs.size,_,I2,rfl,q ps _ hp0.objs.size hp hw nD (λb o e=>by rw[zbL (zbI e nD)];exact sm _ _ e) zbG⟩
def zqH (K:PySem.W.Frag) (sp:Sp) (t:TA):TE:=λσ H Q=>t σ H λvs H1=>∃x,vs=[x]∧zpq K sp x H1 Q
theorem zop {g:Str} {e:Expr} {t:TA} {p p2 kp pos:Pos} (F:FnI X.prog X.w X.K X.mg X.base g k pr sp) (hr:Room (k + 2) X.A) (hs:Gl X "sorted") (hm:X.mg "sorted"=none) (hg:Gl X g) (ha:PA X [e] t)
  (hdb:(g == ("__debug__":Str))=false:=by decide) (he:backTo pos (starEach [e] X.env)=(false,eval e X.env)::backTo pos (starEach [] X.env):=by rfl) (hpl:(backTo pos (starEach [e] X.env)).any (·.1)=false:=by rfl) :
  PE X (.Call (.Name "sorted" p) [e] [⟨some "key",.Name g p2,kp⟩] pos) (zqH X.K sp t):=by
 intro pins s σ H Q I h
 obtain⟨f,fd,ok,hmg,_,hb⟩:=F.ex
 refine wpAny_Call_Name_kw (zfJ I hs hm (by decide +kernel:bootBuiltins "sorted"=some (.builtin "sorted")) ?_)
 refine PyProof.Rows.callWith_kw (thn (ha pos pins s σ H _ I h) λus s1 ⟨vs,H1,I1,r1,x,ex,q1⟩=>?_) he hpl
 subst ex
 refine thn (zpP (zkA hmg hg hdb) zqW pos pins s1 σ H1 (λzs H2=>zs=[.ref f]∧H2=H1) I1 ⟨rfl,rfl⟩) λws s2 ⟨zs,H2,I2,r2,e2,e3⟩=>?_
 subst e2 e3
 cases r1 with
 | cons r1 t1 =>
  cases t1
  cases r2 with
  | cons r2 t2 =>
   cases t2
   cases r2
   exact zmR ok hr hb I2 r1 q1
end
end L2
namespace L2
open PySem PySem.Spec PyProof.Rows
theorem zmf {K:PySem.W.Frag} {a:Addr} {xs:List V} {α:Type} {ts:List α} {tt:TT} {te:TE} {j:Nat} {σ:St} {H1:Hp} {Q:Addr→Hp→Prop} (hl:SqL K H1 a xs) (hlen:ts.length=xs.length) (hz:xs.length≤sizeLine) (p:α→Bool) (f:α→V)
    (ht:∀(i:Nat) x t H2 (Q':Bool→Hp→Prop),xs[i]? = some x→ts[i]? = some t→Same H1 H2→(∀H3,Same H2 H3→Q' (p t) H3)→tt ((zcU σ [j]).set j (some x)) H2 Q')
    (he:∀(i:Nat) x t H2 (Q':VK),xs[i]? = some x→ts[i]? = some t→p t=true→Same H1 H2→(∀H3,Same H2 H3→Q' (f t) H3)→te ((zcU σ [j]).set j (some x)) H2 Q')
    (done:∀D H2,H1 D=none→Same H1 H2→H2 D=some (.lst ((ts.filter p).map f))→Q D H2) :
    ∃a',V.ref a=.ref a'∧(∃xs,SqL K H1 a' xs)∧∀D,H1 D=none→∃W:Nat→Nat→Hp→Prop,(∃m,W 0 m (upd H1 D (.lst [])))∧∀i m H,W i m H →
      ((Itl K a').stop i H∧Q D H)∨((Itl K a').go i H∧∃Nx:Hp→Prop,(∀H',Nx H'→∃m',m' < m∧W (i + 1) m' H')∧∀x H',(Itl K a').yld i H x H'→zeM j x (zcU σ [j]) H' λσ2 H2=>zcU σ2 [j]=zcU σ [j]∧tt σ2 H2 λb H3 =>
        if b=true then te σ2 H3 λy H4=>∃acc,H4 D=some (.lst acc)∧acc.length < sizeLine∧Nx (upd H4 D (.lst (acc++[y]))) else Nx H3):=by
  refine⟨a,rfl,⟨xs,hl⟩,λD hD=>?_⟩
  refine zns (K:=K) (a:=a) (xs:=xs) (Qd:=λH=>Q D H) (λi H=>Same H1 H∧H D=some (.lst (((ts.take i).filter p).map f))) ⟨Same.upd hD,zbG⟩ (λi H _ c=>c.1.seq hl) (λi x H hx c=>?_) (λH c=>?_)
  · have hi:i < xs.length:=(List.getElem?_eq_some_iff.mp hx).1
    obtain⟨t,hti⟩:∃t,ts[i]? = some t:=⟨_,List.getElem?_eq_getElem (by omega)⟩
    show _=_∧tt _ _ _
    refine⟨zpH,?_⟩
    refine ht i x t H _ hx hti c.1 λH3 s3=>?_
    by_cases hp:p t=true
    · rw[if_pos hp]
      refine he i x t H3 _ hx hti hp (c.1.trans s3) λH4 s4=>?_
      have h4:=s4 _ _ (s3 _ _ c.2)
      refine⟨_,h4,?_,λb o e=>?_,?_⟩
      · rw[List.length_map]
        have:=List.length_filter_le p (ts.take i)
        rw[List.length_take] at this
        omega
      · rw[zbL (zbI e hD)];exact s4 _ _ (s3 _ _ (c.1 _ _ e))
      · rw[zbG,zb4 hti,List.filter_append,List.filter_cons_of_pos hp,List.map_append]
        rfl
    · rw[if_neg hp]
      refine⟨c.1.trans s3,?_⟩
      rw[zb4 hti,List.filter_append,List.filter_cons_of_neg hp,List.filter_nil,List.append_nil]
      exact s3 _ _ c.2
  · refine done D H hD c.1 ?_
    have e:=c.2
    rw[←hlen,List.take_length] at e
    exact e
theorem zlz {K:PySem.W.Frag} {a b:Addr} {xs ys:List V} {te:TE} {j1 j2:Nat} {σ:St} {H1:Hp} {Q:Addr→Hp→Prop} (ha:SqL K H1 a xs) (hb:SqL K H1 b ys) (hxy:ys.length=xs.length) (hz:xs.length≤sizeLine) (hj:j1≠j2) (zs:List V) (hlz:zs.length=xs.length)
    (he:∀(i:Nat) x y z H2 (Q':VK),xs[i]? = some x→ys[i]? = some y→zs[i]? = some z→Same H1 H2→(∀H3,Same H2 H3→Q' z H3)→te (((zcU σ [j1,j2]).set j1 (some x)).set j2 (some y)) H2 Q')
    (done:∀D H2,H1 D=none→Same H1 H2→H2 D=some (.lst zs)→Q D H2) :
    ∃a' b' xs ys,[V.ref a,V.ref b]=[V.ref a',V.ref b']∧SqL K H1 a' xs∧SqL K H1 b' ys∧∀D,H1 D=none→∃W:Nat→Nat→Hp→Prop,(∃m,W 0 m (upd H1 D (.lst [])))∧∀i m H,W i m H →
      ((Itz K a' b').stop i H∧Q D H)∨((Itz K a' b').go i H∧∃Nx:Hp→Prop,(∀H',Nx H'→∃m',m' < m∧W (i + 1) m' H')∧∀x H',(Itz K a' b').yld i H x H'→zqc K 2 (zhp (zeM j1) (zhp (zeM j2) zqB)) x (zcU σ [j1,j2]) H' λσ2 H2=>zcU σ2 [j1,j2]=zcU σ [j1,j2]∧zpe σ2 H2 λb H3 =>
        if b=true then te σ2 H3 λy H4=>∃acc,H4 D=some (.lst acc)∧acc.length < sizeLine∧Nx (upd H4 D (.lst (acc++[y]))) else Nx H3):=by
  refine⟨a,b,xs,ys,rfl,ha,hb,λD hD=>?_⟩
  refine⟨λi m H=>i≤xs.length∧m=xs.length - i∧zgD H1 D zs i H,⟨xs.length,Nat.zero_le _,rfl,Same.upd hD,zbG⟩,λi m H ⟨hi,hm,s,hd⟩=>?_⟩
  by_cases hlt:i < xs.length
  · right
    have hx:xs[i]? = some xs[i]:=List.getElem?_eq_getElem hlt
    have hy:ys[i]? = some ys[i]:=List.getElem?_eq_getElem (by omega)
    have hzi:zs[i]? = some zs[i]:=List.getElem?_eq_getElem (by omega)
    refine⟨⟨xs,ys,_,_,s.seq ha,s.seq hb,hx,hy⟩,zgD H1 D zs (i + 1),λH' h1=>⟨xs.length - (i + 1),by omega,by omega,rfl,h1⟩,?_⟩
    rintro v H' ⟨T,x,y,rfl,hT,rfl,hh1,hh2⟩
    have ex:=(hh1 xs (s.seq ha)).symm.trans hx
    have ey:=(hh2 ys (s.seq hb)).symm.trans hy
    cases ex;cases ey
    have sT:Same H (L2.upd H T (.tup [xs[i],ys[i]])):=Same.upd hT
    refine⟨T,_,rfl,SqT.of zbG,rfl,_,_,rfl,_,_,rfl,rfl,zoc hj,?_⟩
    show te _ _ _
    refine he i _ _ _ _ _ hx hy hzi (s.trans sT) λH4 s4=>?_
    refine⟨_,s4 _ _ (sT _ _ hd),by rw[List.length_take];omega,λq o e=>?_,?_⟩
    · rw[zbL (zbI e hD)];exact s4 _ _ (sT _ _ (s _ _ e))
    · rw[zbG,zb4 hzi]
  · left
    have e:i=xs.length:=by omega
    subst e
    refine⟨⟨xs,ys,s.seq ha,s.seq hb,.inl (Nat.le_refl _)⟩,done D H hD s ?_⟩
    rw[←hlz,List.take_length] at hd
    exact hd
section
variable {prog : Program} {w : World} {A : Around} {E : Value → Shared → Prop} {s : Shared}
theorem zmp {z TI TO i1 i2 l1 l2:Addr} {k1 k2:Nat} {xs ys:Array Value} {x y a b:Value} {Q:Value→Shared→Prop} (D:ZipApart z TI TO i1 i2 l1 l2)
  (hz:IsZip s.heap z TI TO .none) (hTI:IsPair s.heap TI (.ref i1) (.ref i2)) (hTO:IsPair s.heap TO a b)
  (h1:s.heap.IsListIter i1 l1 k1) (h2:s.heap.IsTupleIter i2 l2 k2) (hl1:s.heap.IsList l1 xs) (hl2:s.heap.IsTuple l2 ys) (hx:xs[k1]? = some x) (hy:ys[k2]? = some y)
  (hQ:∀h',IsZip h' z TI TO (rawInt s.heap.objs.size)→IsPair h' TO x y→h'.IsListIter i1 l1 (k1 + 1)→h'.IsTupleIter i2 l2 (k2 + 1)→IsPair h' s.heap.objs.size x y→h'.objs.size=s.heap.objs.size + 1→(∀c o,c≠z→c≠TO→c≠i1→c≠i2→s.heap.get? c=some o→h'.get? c=some o)→Q (.ref s.heap.objs.size) { s with heap:=h' }) :
  wpAny (model prog w) A (Builtin.«zip.__next__» ⟨[.ref z],[]⟩) (λfin s'=>∃v,fin=.done (.ret v)∧Q v s') E s:=by
 (show wpAny _ _ (field (.ref z) 2 >>= _) _ _ _);(refine wpAny_bind (wpAny_field hz rfl (x:=.bool false) rfl ?_));(show wpAny _ _ (field (.ref z) 3 >>= _) _ _ _);(refine wpAny_bind (wpAny_field hz rfl (x:=.ref TI) rfl (wpAny_bind (wpAny_seqItems hTI rfl ?_))))
 (show wpAny _ _ (Builtin.SmallTypes.ownedTupleIsFree (.ref z) >>= _) _ _ _);(refine wpAny_bind ?_);unfold Builtin.SmallTypes.ownedTupleIsFree
 (refine wpAny_bind (wpAny_field hz rfl (x:=.none) rfl (wpAny_pure ?_)));simp only [if_true]
 refine wpAny_bind (wpAny_rule (wpAny_bind (wpAny_field hz rfl (x:=.ref TO) rfl (wpAny_bind (wpAny_setField_rec hz (by simp) λg1 hz1 hs1=>?_)))))
 replace hz1:IsZip g1 z TI TO .ellipsis:=hz1
 (refine wpAny_bind ?_);simp only [List.zipIdx_cons,List.zipIdx_nil,List.forIn_cons,List.forIn_nil]
 (refine wpAny_bind (wpAny_bind (wpAny_onRaise ?_)));(show wpAny _ _ (Builtin.SmallTypes.nextOf (.ref i1) >>= _) _ _ _)
 refine wpAny_bind (wpAny_nextOf_list_item (h1.extBut hs1.extBut D.i1z) (hl1.extBut hs1.extBut D.l1z) hx λg2 h12 hs2=>wpAny_pure ?_)
 have hTO2:IsPair g2 TO a b:=hs2.extBut _ _ D.TOi1 (hs1.extBut _ _ D.TOz hTO)
 refine wpAny_bind (wpAny_seqItems hTO2 rfl (wpAny_bind (wpAny_updateSeq_pair hTO2 λg3 hTO3 hs3=>?_)))
 replace hTO3:IsPair g3 TO x b:=hTO3
 (refine wpAny_bind (wpAny_letGo (wpAny_pure ?_)));(refine wpAny_bind (wpAny_bind (wpAny_onRaise ?_)));(show wpAny _ _ (Builtin.SmallTypes.nextOf (.ref i2) >>= _) _ _ _)
 have h2':g3.IsTupleIter i2 l2 k2:=h2.at λo e=>hs3.extBut _ _ D.TOi2.symm (hs2.extBut _ _ D.i12.symm (hs1.extBut _ _ D.i2z e))
 have hl2':g3.IsTuple l2 ys:=let ⟨o,e,r⟩:=hl2;⟨o,hs3.extBut _ _ D.l2TO (hs2.extBut _ _ D.l2i1 (hs1.extBut _ _ D.l2z e)),r⟩
 refine wpAny_bind (zeJ (s:={ s with heap:=g3 }) h2' hl2' hy λg4 h24 hs4=>wpAny_pure ?_)
 have hTO4:IsPair g4 TO x b:=hs4.extBut _ _ D.TOi2 hTO3
 refine wpAny_bind (wpAny_seqItems hTO4 rfl (wpAny_bind (wpAny_updateSeq_pair hTO4 λg5 hTO5 hs5=>?_)))
 replace hTO5:IsPair g5 TO x y:=hTO5
 refine wpAny_bind (wpAny_letGo (wpAny_pure (wpAny_pure (wpAny_bind (wpAny_seqItems hTO5 rfl (wpAny_bind (wpAny_newTuple ?_)))))))
 have hsz:g5.objs.size=s.heap.objs.size:=by rw[hs5.1,hs4.1,hs3.1,hs2.1,hs1.1]
 have hz5:IsZip g5 z TI TO .ellipsis:=hs5.extBut _ _ D.TOz.symm (hs4.extBut _ _ D.i2z.symm (hs3.extBut _ _ D.TOz.symm (hs2.extBut _ _ D.i1z.symm hz1)))
 have hk5:∀c o,c≠z→c≠TO→c≠i1→c≠i2→s.heap.get? c=some o→g5.get? c=some o:=λc o c1 c2 c3 c4 e=>hs5.extBut _ _ c2 (hs4.extBut _ _ c4 (hs3.extBut _ _ c2 (hs2.extBut _ _ c3 (hs1.extBut _ _ c1 e))))
 have h15:g5.IsListIter i1 l1 (k1 + 1):=((h12.extBut hs3.extBut D.TOi1.symm).extBut hs4.extBut D.i12).extBut hs5.extBut D.TOi1.symm
 have h25:g5.IsTupleIter i2 l2 (k2 + 1):=h24.at λo e=>hs5.extBut _ _ D.TOi2.symm e
 have hzlt:z < g5.objs.size:=Heap.lt_size hz5
 (show wpAny _ _ (Builtin.SmallTypes.ownedTupleHandOut (.ref z) (.ref g5.objs.size) >>= _) _ _ _);(refine wpAny_bind ?_);unfold Builtin.SmallTypes.ownedTupleHandOut
 have hz6:IsZip (g5.push { cls:=.type "tuple",data:=.seq #[x,y] }) z TI TO .ellipsis:=Heap.get?_push_of_some _ hz5
 refine wpAny_bind (wpAny_setField_rec hz6 (by simp) λg7 hz7 hs7=>?_)
 replace hz7:IsZip g7 z TI TO (rawInt g5.objs.size):=hz7
 refine wpAny_setField_rec hz7 (by simp) λg8 hz8 hs8=>?_
 replace hz8:IsZip g8 z TI TO (rawInt g5.objs.size):=hz8
 have up:∀c o,c≠z→g5.get? c=some o→g8.get? c=some o:=λc o c1 e=>hs8.extBut _ _ c1 (hs7.extBut _ _ c1 (Heap.get?_push_of_some _ e))
 have hT8:IsPair g8 g5.objs.size x y:=hs8.extBut _ _ (Nat.ne_of_gt hzlt) (hs7.extBut _ _ (Nat.ne_of_gt hzlt) (Heap.get?_push_size _ rfl))
 have zz8:g8.objs.size=g5.objs.size + 1:=by rw[hs8.1,hs7.1,Heap.size_push]
 rw[hsz] at hz8 hT8 zz8
 refine wpAny_pure ⟨_,rfl,?_⟩
 (show Q (.ref g5.objs.size) _);rw[hsz]
 exact hQ g8 hz8 (up _ _ D.TOz hTO5) (h15.at λo e=>up _ o D.i1z e) (h25.at λo e=>up _ o D.i2z e) hT8 zz8 λc o c1 c2 c3 c4 e=>up c o c1 (hk5 c o c1 c2 c3 c4 e)
theorem zob {z TI TO i1 i2 l1 l2:Addr} {k1:Nat} {xs:Array Value} {a b:Value} {Q:Fin→Shared→Prop} (hh:A.handled=none) (D:ZipApart z TI TO i1 i2 l1 l2)
  (hz:IsZip s.heap z TI TO .none) (hTI:IsPair s.heap TI (.ref i1) (.ref i2)) (hTO:IsPair s.heap TO a b) (h1:s.heap.IsListIter i1 l1 k1) (hl1:s.heap.IsList l1 xs) (hend:xs[k1]? = none)
  (hE:∀h' e,(∀c o,c≠z→c≠TO→c≠i1→c≠i2→s.heap.get? c=some o→h'.get? c=some o)→(∃o,h'.get? e=some o∧o.cls=.type "StopIteration")→E (.ref e) { s with heap:=h' }):wpAny (model prog w) A (Builtin.«zip.__next__» ⟨[.ref z],[]⟩) Q E s:=by
 (show wpAny _ _ (field (.ref z) 2 >>= _) _ _ _);(refine wpAny_bind (wpAny_field hz rfl (x:=.bool false) rfl ?_));(show wpAny _ _ (field (.ref z) 3 >>= _) _ _ _);(refine wpAny_bind (wpAny_field hz rfl (x:=.ref TI) rfl (wpAny_bind (wpAny_seqItems hTI rfl ?_))))
 (show wpAny _ _ (Builtin.SmallTypes.ownedTupleIsFree (.ref z) >>= _) _ _ _);(refine wpAny_bind ?_);unfold Builtin.SmallTypes.ownedTupleIsFree
 (refine wpAny_bind (wpAny_field hz rfl (x:=.none) rfl (wpAny_pure ?_)));simp only [if_true]
 refine wpAny_bind (wpAny_rule (wpAny_bind (wpAny_field hz rfl (x:=.ref TO) rfl (wpAny_bind (wpAny_setField_rec hz (by simp) λg1 hz1 hs1=>?_)))))
 replace hz1:IsZip g1 z TI TO .ellipsis:=hz1
 (refine wpAny_bind ?_);simp only [List.zipIdx_cons,List.zipIdx_nil,List.forIn_cons,List.forIn_nil]
 (refine wpAny_bind (wpAny_bind (wpAny_onRaise ?_)));(show wpAny _ _ (Builtin.SmallTypes.nextOf (.ref i1) >>= _) _ _ _)
 refine wpAny_bind (wpAny_nextOf_list_end hh (h1.extBut hs1.extBut D.i1z) (hl1.extBut hs1.extBut D.l1z) hend λg2 e hs2 he=>?_)
 obtain⟨oe,hoe,hce⟩:=he
 have hz2:IsZip g2 z TI TO .ellipsis:=hs2 _ _ D.i1z.symm hz1
 have hez:e≠z:=λq=>by (subst q;rw[hz2] at hoe);(cases hoe;simp at hce)
 exact wpAny_setField_rec hz2 (by simp) λg3 _ hs3=>hE g3 e (λc o c1 _ c3 _ q=>hs3.extBut _ _ c1 (hs2 _ _ c3 (hs1.extBut _ _ c1 q))) ⟨oe,hs3.extBut _ _ hez hoe,hce⟩
theorem zl7 {z TI TO i1 i2 l1 l2:Addr} {k1 k2:Nat} {xs ys:Array Value} {x y a b:Value} {Q:Option Value→Shared→Prop} (D:ZipApart z TI TO i1 i2 l1 l2)
  (hz:IsZip s.heap z TI TO .none) (hTI:IsPair s.heap TI (.ref i1) (.ref i2)) (hTO:IsPair s.heap TO a b)
  (h1:s.heap.IsListIter i1 l1 k1) (h2:s.heap.IsTupleIter i2 l2 k2) (hl1:s.heap.IsList l1 xs) (hl2:s.heap.IsTuple l2 ys) (hx:xs[k1]? = some x) (hy:ys[k2]? = some y)
  (hQ:∀h',IsZip h' z TI TO (rawInt s.heap.objs.size)→IsPair h' TO x y→h'.IsListIter i1 l1 (k1 + 1)→h'.IsTupleIter i2 l2 (k2 + 1)→IsPair h' s.heap.objs.size x y→h'.objs.size=s.heap.objs.size + 1→(∀c o,c≠z→c≠TO→c≠i1→c≠i2→s.heap.get? c=some o→h'.get? c=some o)→Q (some (.ref s.heap.objs.size)) { s with heap:=h' }) :
  wpAny (model prog w) A (pyNext (.ref z)) Q E s:=by
 have hT:s.TypeIs (.ref z) "zip":=⟨_,hz,rfl⟩
 unfold pyNext
 exact wpAny_bind (wpAny_attempt (wpAny_callSpecial?_slot (name:=Str.ofString "__next__") hT F.slot_zip_next (wpAny_call_entry F.slot_zip_next hT F.entry_zip_next
  (zmp D hz hTI hTO h1 h2 hl1 hl2 hx hy λh' a1 a2 a3 a4 a5 a6 a7=>wpAny_pure (hQ h' a1 a2 a3 a4 a5 a6 a7)) (F.args_zip_next_1 _))))
theorem znl {z TI TO i1 i2 l1 l2:Addr} {k1:Nat} {xs:Array Value} {a b:Value} {Q:Option Value→Shared→Prop} (hh:A.handled=none) (D:ZipApart z TI TO i1 i2 l1 l2)
  (hz:IsZip s.heap z TI TO .none) (hTI:IsPair s.heap TI (.ref i1) (.ref i2)) (hTO:IsPair s.heap TO a b) (h1:s.heap.IsListIter i1 l1 k1) (hl1:s.heap.IsList l1 xs) (hend:xs[k1]? = none)
  (hQ:∀h',(∀c o,c≠z→c≠TO→c≠i1→c≠i2→s.heap.get? c=some o→h'.get? c=some o)→Q none { s with heap:=h' }):wpAny (model prog w) A (pyNext (.ref z)) Q E s:=by
 have hT:s.TypeIs (.ref z) "zip":=⟨_,hz,rfl⟩
 unfold pyNext
 refine wpAny_bind (wpAny_attempt (wpAny_callSpecial?_slot (name:=Str.ofString "__next__") hT F.slot_zip_next (wpAny_call_entry F.slot_zip_next hT F.entry_zip_next (zob hh D hz hTI hTO h1 hl1 hend λh' e hk he=>?_) (F.args_zip_next_1 _))))
 obtain⟨o,ho,hc⟩:=he
 exact wpAny_bind (wpAny_isInstance (T:="StopIteration") (b:=true) ⟨o,ho,hc⟩ isSubtype_stop (wpAny_pure (hQ _ hk)))
abbrev zt1 (h:Heap) (l1:Addr):Heap:=h.push { cls:=.type "list_iterator",data:=.fields #[.ref l1,.int 0 0] }
abbrev zt2 (h:Heap) (l1 l2:Addr):Heap:=(zt1 h l1).push { cls:=.type "tuple_iterator",data:=.fields #[.ref l2,.int 0 0] }
abbrev zt3 (h:Heap) (l1 l2:Addr):Heap:=(zt2 h l1 l2).push { cls:=.type "tuple",data:=.seq #[.ref h.objs.size,.ref (zt1 h l1).objs.size] }
abbrev zt4 (h:Heap) (l1 l2:Addr):Heap:=(zt3 h l1 l2).push { cls:=.type "tuple",data:=.seq #[.none,.none] }
abbrev zt5 (h:Heap) (l1 l2:Addr):Heap:=(zt4 h l1 l2).push { cls:=.type "zip",data:=.fields #[.none,.bool false,.bool false,.ref (zt2 h l1 l2).objs.size,.ref (zt3 h l1 l2).objs.size] }
theorem zoa (l1 l2:Addr) (xs ys:Array Value):Meets (Builtin.«zip.__new__» ⟨[.type "zip",.ref l1,.ref l2],[]⟩) (λ_ R s=>s.heap.IsList l1 xs∧s.heap.IsTuple l2 ys∧R (.ok (.ret (.ref (zt4 s.heap l1 l2).objs.size))) { s with heap:=zt5 s.heap l1 l2 }) :=
 .of_wp λprog w A R s h=>by
  (obtain⟨hp,g,d,tk,os⟩:=s);(obtain⟨hl1,hl2,h⟩:=h);have hsub:=sub_zip
  have hq1:Heap.IsList (Shared.heap ⟨hp,g,d,tk,os⟩) l1 xs:=hl1
  have hq2:Heap.IsTuple (Shared.heap ⟨hp.push { cls:=.type "list_iterator",data:=.fields #[.ref l1,.int 0 0] },g,d,tk,os⟩) l2 ys:=let ⟨o,e,r⟩:=hl2;⟨o,Heap.get?_push_of_some _ e,r⟩
  (wp_walk using wpAny_pyIter_list hq1,wpAny_pyIter_tuple hq2);exact⟨_,rfl,h⟩
theorem znU {l1 l2:Addr} {xs ys:Array Value} {Q:Value→Shared→Prop} (hl1:s.heap.IsList l1 xs) (hl2:s.heap.IsTuple l2 ys)
  (h:∀h',IsZip h' (s.heap.objs.size + 4) (s.heap.objs.size + 2) (s.heap.objs.size + 3) .none→IsPair h' (s.heap.objs.size + 2) (.ref s.heap.objs.size) (.ref (s.heap.objs.size + 1))→IsPair h' (s.heap.objs.size + 3) .none .none→h'.IsListIter s.heap.objs.size l1 0→h'.IsTupleIter (s.heap.objs.size + 1) l2 0→h'.objs.size=s.heap.objs.size + 5→(∀c o,s.heap.get? c=some o→h'.get? c=some o)→Q (.ref (s.heap.objs.size + 4)) { s with heap:=h' }) :
  wpAny (model prog w) A (call (.type "zip") [.ref l1,.ref l2]) Q E s:=by
 refine callType_new F.called_zip (by decide) (F.typeCall_zip_2 _ _) (F.newCall_zip_2 _ _) (λobj=>F.args_object_init_3 obj _ _) F.entry_zip_new (zoa l1 l2 xs ys) ⟨hl1,hl2,?_⟩
 have z1:(zt1 s.heap l1).objs.size=s.heap.objs.size + 1:=Heap.size_push ..
 have z2:(zt2 s.heap l1 l2).objs.size=s.heap.objs.size + 2:=by rw[Heap.size_push,z1]
 have z3:(zt3 s.heap l1 l2).objs.size=s.heap.objs.size + 3:=by rw[Heap.size_push,z2]
 have z4:(zt4 s.heap l1 l2).objs.size=s.heap.objs.size + 4:=by rw[Heap.size_push,z3]
 have z5:(zt5 s.heap l1 l2).objs.size=s.heap.objs.size + 5:=by rw[Heap.size_push,z4]
 have g5:(zt5 s.heap l1 l2).get? (zt4 s.heap l1 l2).objs.size=some _:=Heap.get?_push_size _ rfl
 have g4:(zt5 s.heap l1 l2).get? (zt3 s.heap l1 l2).objs.size=some _:=Heap.get?_push_of_some _ (Heap.get?_push_size _ rfl)
 have g3:(zt5 s.heap l1 l2).get? (zt2 s.heap l1 l2).objs.size=some _:=Heap.get?_push_of_some _ (Heap.get?_push_of_some _ (Heap.get?_push_size _ rfl))
 have g2:(zt5 s.heap l1 l2).get? (zt1 s.heap l1).objs.size=some _:=Heap.get?_push_of_some _ (Heap.get?_push_of_some _ (Heap.get?_push_of_some _ (Heap.get?_push_size _ rfl)))
 have g1:(zt5 s.heap l1 l2).get? s.heap.objs.size=some _:=Heap.get?_push_of_some _ (Heap.get?_push_of_some _ (Heap.get?_push_of_some _ (Heap.get?_push_of_some _ (Heap.get?_push_size _ rfl))))
 (show _∧_);(rw[z2,z3,z4] at g5);(rw[z1,z2] at g3);(rw[z3] at g4);(rw[z1] at g2);rw[z4]
 exact⟨⟨_,g5,rfl⟩,h _ g5 g3 g4 ⟨_,g1,rfl,rfl⟩ ⟨_,g2,rfl,rfl⟩ z5 λc o q=>Heap.get?_push_of_some _ (Heap.get?_push_of_some _ (Heap.get?_push_of_some _ (Heap.get?_push_of_some _ (Heap.get?_push_of_some _ q))))⟩
end
def zro (K:PySem.W.Frag) (a b:Addr):It :=
 ⟨λi H=>∃(xs ys:List V) (x y:V),SqL K H a xs∧SqT K H b ys∧xs[i]? = some x∧ys[i]? = some y,λi H v H'=>∃T x y,v=.ref T∧H T=none∧H'=upd H T (.tup [x,y])∧(∀xs,SqL K H a xs→xs[i]? = some x)∧∀ys,SqT K H b ys→ys[i]? = some y,λi H=>∃xs:List V,SqL K H a xs∧xs.length≤i⟩
theorem zmt {P:Program} {w:World} {K:PySem.W.Frag} {elts:List Expr} {kk:Nat} {tpos:Pos} {a b z TI TO i1 i2:Addr} (D:ZipApart z TI TO i1 i2 a b) :
  Turn P w K (.Tuple elts kk tpos) (zro K a b) [z,TI,TO,i1,i2] z (λi h=>IsZip h z TI TO .none∧IsPair h TI (.ref i1) (.ref i2)∧(∃x y,IsPair h TO x y)∧h.IsListIter i1 a i∧h.IsTupleIter i2 b i) where
 mem:=by simp
 obj:=λi h st c hc=>by
  obtain⟨hz,hTI,⟨x,y,hTO⟩,⟨o1,e1,_,d1⟩,⟨o2,e2,_,d2⟩⟩:=st
  have e':c=z∨c=TI∨c=TO∨c=i1∨c=i2:=by simpa using hc
  rcases e' with q | q | q | q | q
  ·rw[q];exact⟨_,hz,λv q=>nomatch q⟩
  ·rw[q];exact⟨_,hTI,λv q=>nomatch q⟩
  ·rw[q];exact⟨_,hTO,λv q=>nomatch q⟩
  ·rw[q];exact⟨o1,e1,λv q=>by rw[d1] at q;cases q⟩
  ·rw[q];exact⟨o2,e2,λv q=>by rw[d2] at q;cases q⟩
 keep:=λi h h' st k=>by
  obtain⟨hz,hTI,⟨x,y,hTO⟩,h1,h2⟩:=st
  exact⟨k z (by simp) _ hz,k TI (by simp) _ hTI,⟨x,y,k TO (by simp) _ hTO⟩,h1.at λo q=>k i1 (by simp) o q,h2.at λo q=>k i2 (by simp) o q⟩
 item:=by
  intro X hP hw hK hc i pins s σ H E I hf st hg
  subst hP hw hK
  obtain⟨hz,hTI,⟨x0,y0,hTO⟩,h1,h2⟩:=st
  obtain⟨xs,ys,x,y,hqx,hqy,hx,hy⟩:=hg
  obtain⟨its,rv,p,_⟩:=I.list hqx
  obtain⟨its2,rv2,p2,_⟩:=I.tuple hqy
  obtain⟨u,hu,ru⟩:=rv.get hx
  obtain⟨u2,hu2,ru2⟩:=rv2.get hy
  have hzl:z < s.heap.objs.size:=Heap.lt_size hz
  refine zl7 D hz hTI hTO h1 h2 p.isList (show s.heap.IsTuple b its2.toArray from p2) (x:=u) (y:=u2) (by simpa using hu) (by simpa using hu2) λh' z' TO' h1' h2' hT hsz hk=>?_
  refine⟨_,rfl,wpAny_letOwnedTupleGo_zip (s:={ s with heap:=h' }) z' λh'' z'' sb=>?_⟩
  have hT2:h''.get? s.heap.objs.size=some { cls:=.type "tuple",data:=.seq #[u,u2] }:=(sb.2 _ (Nat.ne_of_gt hzl)).trans hT
  have new:ObjOk X.prog X.w (upd H s.heap.objs.size (.tup [x,y])) h'' s.heap.objs.size (.tup [x,y]):=⟨by show 2≤sizeLine;decide,[u,u2],.cons ru (.cons ru2 .nil),⟨_,hT2,rfl,_,rfl⟩⟩
  have I1:Inv X pins σ (upd H s.heap.objs.size (.tup [x,y])) { s with heap:=h'' }:=I.turnedNew (t':=s.toks) (ch:=[z,TI,TO,i1,i2]) (λc o hb q=>(sb.2 c (λq'=>hb (by simp [q']))).trans (hk c o (λq'=>hb (by simp [q'])) (λq'=>hb (by simp [q'])) (λq'=>hb (by simp [q'])) (λq'=>hb (by simp [q'])) q)) hf (Nat.le_refl _) new
  refine⟨.ref s.heap.objs.size,_,I1,rfl,⟨_,x,y,rfl,I.hok.fresh (Nat.le_refl _),rfl,λl hl=>by rw[I.list_inj hl hqx];exact hx,λl hl=>by rw[I.tuple_inj hl hqy];exact hy⟩,⟨z'',(sb.2 _ D.TIz).trans (hk _ _ D.TIz D.TITO D.TIi1 D.TIi2 hTI),⟨u,u2,(sb.2 _ D.TOz).trans TO'⟩,h1'.at λo q=>(sb.2 _ D.i1z).trans q,h2'.at λo q=>(sb.2 _ D.i2z).trans q⟩,λc hcm=>?_⟩
  have hlt:c < s.heap.objs.size:=by
   have e':c=z∨c=TI∨c=TO∨c=i1∨c=i2:=by simpa using hcm
   rcases e' with q | q | q | q | q
   ·rw[q];exact hzl
   ·rw[q];exact Heap.lt_size hTI
   ·rw[q];exact Heap.lt_size hTO
   ·(rw[q];obtain⟨_,e1,_⟩:=h1);exact Heap.lt_size e1
   ·(rw[q];obtain⟨_,e2,_⟩:=h2);exact Heap.lt_size e2
  rw[zbL (Nat.ne_of_lt hlt)]
  exact (hf c hcm).1
 done:=by
  intro X hP hw hK hc i pins s σ H E I hf st hg
  subst hP hw hK
  obtain⟨hz,hTI,⟨x0,y0,hTO⟩,h1,h2⟩:=st
  obtain⟨xs,hqx,hend⟩:=hg
  obtain⟨its,rv,p,_⟩:=I.list hqx
  have l1:=rv.length
  exact znl (I.ok.hd hc) D hz hTI hTO h1 p.isList (by simp;omega) λh' hk=>⟨rfl,I.turnedL (t':=s.toks) (ch:=[z,TI,TO,i1,i2]) (λc o hb q=>hk c o (λq'=>hb (by simp [q'])) (λq'=>hb (by simp [q'])) (λq'=>hb (by simp [q'])) (λq'=>hb (by simp [q'])) q) hf⟩
 self:=λA i s Q E st h=>wpAny_pyIter_zip st.1 h
def zr0 (K:PySem.W.Frag) (ta:TA):TI:=λσ H R=>ta σ H λvs H1=>∃a b xs ys,vs=[.ref a,.ref b]∧SqL K H1 a xs∧SqT K H1 b ys∧R (zro K a b) H1
theorem zpQ {X:Cx} {e e2:Expr} {ta:TA} {p pos tpos:Pos} {elts:List Expr} {kk:Nat} (hg:Gl X "zip") (hm:X.mg "zip"=none) (ha:PA X [e,e2] ta) (hs:starEach [e,e2] X.env=(false,eval e X.env)::starEach [e2] X.env:=by rfl) (hpl:(backTo pos (starEach [e2] X.env)).any (·.1)=false:=by rfl) :
  PI X (.Tuple elts kk tpos) (.Call (.Name "zip" p) [e,e2] [] pos) (zr0 X.K ta):=by
 intro pins s σ H R I h
 refine Call_ (zfJ I hg hm zka (PyProof.Rows.callWith_type1 (thn (ha pos pins s σ H _ I h) λus s1 ⟨vs,H1,I1,r1,q1⟩=>?_) hs hpl))
 obtain⟨a,b,xs,ys,ex,hqx,hqy,q⟩:=q1
 subst ex
 cases r1 with
 | cons r rr =>
  cases rr with
  | cons r' rr =>
   cases rr
   (cases r;cases r')
   obtain⟨its,rv,p1,_⟩:=I1.list hqx
   obtain⟨its2,rv2,p2,_⟩:=I1.tuple hqy
   have la:a < s1.heap.objs.size:=p1.lt
   have lb:b < s1.heap.objs.size:=by obtain⟨o,ho,_⟩:=id p2;exact Heap.lt_size ho
   refine znU p1.isList (show s1.heap.IsTuple b its2.toArray from p2) λh' hz hTI hTO h1 h2 hsz hk=>wpAny_pyIter_zip hz ?_
   have I2:Inv X pins σ H1 { s1 with heap:=h' }:=I1.kept (t':=s1.toks) hk
   refine⟨s1.heap.objs.size + 4,[s1.heap.objs.size + 4,s1.heap.objs.size + 2,s1.heap.objs.size + 3,s1.heap.objs.size,s1.heap.objs.size + 1],_,_,H1,rfl,I2,zmt (PySem.W.ktu_apart s1.heap.objs.size a b la lb),⟨hz,hTI,⟨_,_,hTO⟩,h1,h2⟩,λc hcm=>?_,q⟩
   have hle:s1.heap.objs.size≤c:=by
    have e':c=s1.heap.objs.size + 4∨c=s1.heap.objs.size + 2∨c=s1.heap.objs.size + 3∨c=s1.heap.objs.size∨c=s1.heap.objs.size + 1:=by simpa using hcm
    rcases e' with z | z | z | z | z <;> (rw[z];omega)
   exact I1.fpOk hle (I1.hok.fresh hle)
theorem znT {K:PySem.W.Frag} {a b:Addr} {xs ys:List V} {te:TE} {j1 j2:Nat} {σ:St} {H1:Hp} {Q:Addr→Hp→Prop} (ha:SqL K H1 a xs) (hb:∀H,SqT K H b ys) (hxy:xs.length≤ys.length) (hz:xs.length≤sizeLine) (hj:j1≠j2) (zs:List V) (hlz:zs.length=xs.length)
    (he:∀(i:Nat) x y z H2 (Q':VK),xs[i]? = some x→ys[i]? = some y→zs[i]? = some z→Same H1 H2→(∀H3,Same H2 H3→Q' z H3)→te (((zcU σ [j1,j2]).set j1 (some x)).set j2 (some y)) H2 Q')
    (done:∀D H2,H1 D=none→Same H1 H2→H2 D=some (.lst zs)→Q D H2) :
    ∃a' b' xs ys,[V.ref a,V.ref b]=[V.ref a',V.ref b']∧SqL K H1 a' xs∧SqT K H1 b' ys∧∀D,H1 D=none→∃W:Nat→Nat→Hp→Prop,(∃m,W 0 m (upd H1 D (.lst [])))∧∀i m H,W i m H →
      ((zro K a' b').stop i H∧Q D H)∨((zro K a' b').go i H∧∃Nx:Hp→Prop,(∀H',Nx H'→∃m',m' < m∧W (i + 1) m' H')∧∀x H',(zro K a' b').yld i H x H'→zqc K 2 (zhp (zeM j1) (zhp (zeM j2) zqB)) x (zcU σ [j1,j2]) H' λσ2 H2=>zcU σ2 [j1,j2]=zcU σ [j1,j2]∧zpe σ2 H2 λb H3 =>
        if b=true then te σ2 H3 λy H4=>∃acc,H4 D=some (.lst acc)∧acc.length < sizeLine∧Nx (upd H4 D (.lst (acc++[y]))) else Nx H3):=by
  refine⟨a,b,xs,ys,rfl,ha,hb _,λD hD=>?_⟩
  refine⟨λi m H=>i≤xs.length∧m=xs.length - i∧zgD H1 D zs i H,⟨xs.length,Nat.zero_le _,rfl,Same.upd hD,zbG⟩,λi m H ⟨hi,hm,s,hd⟩=>?_⟩
  by_cases hlt:i < xs.length
  · right
    have hx:xs[i]? = some xs[i]:=List.getElem?_eq_getElem hlt
    have hy:ys[i]? = some ys[i]:=List.getElem?_eq_getElem (by omega)
    have hzi:zs[i]? = some zs[i]:=List.getElem?_eq_getElem (by omega)
    refine⟨⟨xs,ys,_,_,s.seq ha,hb _,hx,hy⟩,zgD H1 D zs (i + 1),λH' h1=>⟨xs.length - (i + 1),by omega,by omega,rfl,h1⟩,?_⟩
    rintro v H' ⟨T,x,y,rfl,hT,rfl,hh1,hh2⟩
    have ex:=(hh1 xs (s.seq ha)).symm.trans hx
    have ey:=(hh2 ys (hb _)).symm.trans hy
    cases ex;cases ey
    have sT:Same H (L2.upd H T (.tup [xs[i],ys[i]])):=Same.upd hT
    refine⟨T,_,rfl,SqT.of zbG,rfl,_,_,rfl,_,_,rfl,rfl,zoc hj,?_⟩
    show te _ _ _
    refine he i _ _ _ _ _ hx hy hzi (s.trans sT) λH4 s4=>?_
    refine⟨_,s4 _ _ (sT _ _ hd),by rw[List.length_take];omega,λq o e=>?_,?_⟩
    · rw[zbL (zbI e hD)];exact s4 _ _ (sT _ _ (s _ _ e))
    · rw[zbG,zb4 hzi]
  · left
    have e:i=xs.length:=by omega
    subst e
    refine⟨⟨xs,s.seq ha,Nat.le_refl _⟩,done D H hD s ?_⟩
    rw[←hlz,List.take_length] at hd
    exact hd
end L2
namespace Z
open PySem PySem.Spec PyProof.Rows L2
open Vbeman (Line Right House Bid)
def top (i:Nat):Stmt:=PySem.Challenge.pw_zonerights_s01_answers.main.body.getD i (.Pass ⟨0,0,0,0⟩)
structure Ad where
 cRight:Addr
 cLine:Addr
 cCall:Addr
 cHouse:Addr
 cBid:Addr
 a_NUMBER_NAMES:Addr
 a_ROW_NAMES:Addr
 a_RANGES:Addr
 a_WEIGHTS:Addr
 a_GROUP_COUNTS:Addr
def znE:List Str:=["number","owner","source","sink","kind","amount"]
def znF:List Str:=["first","second","forth","back"]
def L_NUMBER_NAMES:List (List Str):=[["zones"],["a","b","forth","back"],["line","forth","back"],["line","forth","back"],["owner","source","sink","kind","amount","price"],["source","sink"],["right","amount"],["right"],["right","buyer","amount","price"],["right","other"],["right","other","amount"],["right","zone"],["right","other","amount"],["owner","source","sink","kind","amount","price"],["bid"],[],[],[],["right"],[],[],["owner"],["owner","payin"],[],["owner"],[]]
def L_ROW_NAMES:List (Int×List Str):=[(16,["prices","flows"]),(17,["prices"]),(18,["prices"]),(19,["marks"])]
def L_RANGES:List (Str×Int×Int):=[("zones",(2,6)),("a",(0,5)),("b",(0,5)),("source",(0,5)),("sink",(0,5)),("zone",(0,5)),("line",(0,9)),("forth",(0,1000000000)),("back",(0,1000000000)),("owner",(0,7)),("buyer",(0,7)),("kind",(0,1)),("amount",(1,1000000000)),("price",((-1000000),1000000)),("right",(1,1000000000)),("other",(1,1000000000)),("bid",(1,1000000000)),("payin",((-1000000000000000),1000000000000000)),("prices",((-1000000),1000000)),("flows",((-1000000000),1000000000)),("marks",(0,1))]
def znG:List Str:=["zones","lines","rights","bids","next_number","next_bid_number","balances","till","sales","cash"]
def znI:List Str:=["number","owner","source","sink","kind","left","price"]
def znH:List Str:=["place","numbers","rows"]
structure Txt (K:PySem.W.Frag) (mg:Str→Option Value) (A:Ad):Prop where
 r_WEIGHTS:mg "WEIGHTS"=some (.ref A.a_WEIGHTS)
 t_WEIGHTS:∀H,SqT K H A.a_WEIGHTS ([1,2,4,8,16,32].map V.int)
 r_GROUP_COUNTS:mg "GROUP_COUNTS"=some (.ref A.a_GROUP_COUNTS)
 t_GROUP_COUNTS:∀H,SqT K H A.a_GROUP_COUNTS ([1,2,4,8,16,32,64].map V.int)
 i_OBLIGATION:∃t,mg "OBLIGATION"=some (.int 0 t)
 i_MOST_AMOUNT:∃t,mg "MOST_AMOUNT"=some (.int 1000000000 t)
 n_sum:mg "sum"=none
 n_min:mg "min"=none
 n_range:mg "range"=none
 n_enumerate:mg "enumerate"=none
 n_max:mg "max"=none
 n_list:mg "list"=none
 n_reversed:mg "reversed"=none
 clR:Cls K A.cRight
 naR:∀f,f∈znE→NoAttr K A.cRight f
 clL:Cls K A.cLine
 naL:∀f,f∈znF→NoAttr K A.cLine f
 clC:Cls K A.cCall
 naC:∀f,f∈znH→NoAttr K A.cCall f
 n_len:mg "len"=none
 n_all:mg "all"=none
 r_NUMBER_NAMES:mg "NUMBER_NAMES"=some (.ref A.a_NUMBER_NAMES)
 r_ROW_NAMES:mg "ROW_NAMES"=some (.ref A.a_ROW_NAMES)
 r_RANGES:mg "RANGES"=some (.ref A.a_RANGES)
 t_NUMBER_NAMES:∃as:List Addr,(∀H,SqT K H A.a_NUMBER_NAMES (as.map V.ref))∧as.length=L_NUMBER_NAMES.length∧∀(i:Nat) a x,as[i]? = some a→L_NUMBER_NAMES[i]? = some x→∀H,SqT K H a (x.map V.str)
 clH:Cls K A.cHouse
 naH:∀f,f∈znG→NoAttr K A.cHouse f
 i_OWNER_COUNT:∃t,mg "OWNER_COUNT"=some (.int 8 t)
 i_OPTION:∃t,mg "OPTION"=some (.int 1 t)
 i_MOST_LINES:∃t,mg "MOST_LINES"=some (.int 10 t)
 i_MOST_RIGHTS:∃t,mg "MOST_RIGHTS"=some (.int 30 t)
 i_NOT_AS_TOLD:∃t,mg "NOT_AS_TOLD"=some (.int (-1) t)
 i_NO_HOUSE:∃t,mg "NO_HOUSE"=some (.int (-2) t)
 i_NOT_THERE:∃t,mg "NOT_THERE"=some (.int (-3) t)
 i_NOT_FITTING:∃t,mg "NOT_FITTING"=some (.int (-4) t)
 i_FULL:∃t,mg "FULL"=some (.int (-5) t)
 i_TOO_DEAR:∃t,mg "TOO_DEAR"=some (.int (-6) t)
 i_NOT_SAFE:∃t,mg "NOT_SAFE"=some (.int (-7) t)
 i_NOT_FITTING_FLOWS:∃t,mg "NOT_FITTING_FLOWS"=some (.int (-8) t)
 i_MOST_BIDS:∃t,mg "MOST_BIDS"=some (.int 10 t)
 i_MOST_TIMES:∃t,mg "MOST_TIMES"=some (.int 16 t)
 i_LONGEST_ROW:∃t,mg "LONGEST_ROW"=some (.int 64 t)
 n_zip:mg "zip"=none
 n_sorted:mg "sorted"=none
 clB:Cls K A.cBid
 naB:∀f,f∈znI→NoAttr K A.cBid f
structure TxtD (P:Program) (w:World) (K:PySem.W.Frag) (A:Ad):Prop where
 d_ROW_NAMES:∃rs:List Addr,rs.length=L_ROW_NAMES.length∧zn2 P w K A.a_ROW_NAMES ((L_ROW_NAMES.zip rs).map λx=>(.inl x.1.1,.ref x.2))∧∀(i:Nat) x r,L_ROW_NAMES[i]? = some x→rs[i]? = some r→∀H,SqT K H r (x.2.map V.str)
 d_RANGES:∃rs:List Addr,rs.length=L_RANGES.length∧zn2 P w K A.a_RANGES ((L_RANGES.zip rs).map λx=>(.inr x.1.1,.ref x.2))∧∀(i:Nat) x r,L_RANGES[i]? = some x→rs[i]? = some r→∀H,SqT K H r [.int x.2.1,.int x.2.2]
section
variable {P : Program} {w : World} {K : PySem.W.Frag} {mg : Str → Option Value} {base : Heap} {A : Ad} {f : Addr} {fd : FuncData}
theorem gR (T:Txt K mg A) {H:Hp} {a dx:Addr} {fs:List (Str×V)} {x:Str} {v:V} {Q:V→Prop} (h:H a=some (.ins A.cRight dx fs)) (e:fs.lookup x=some v) (q:Q v) (n:x∈znE:=by decide):∃a' C dx fs v,V.ref a=.ref a'∧H a'=some (.ins C dx fs)∧Cls K C∧NoAttr K C x∧fs.lookup x=some v∧Q v:=⟨a,_,dx,fs,v,rfl,h,T.clR,T.naR x n,e,q⟩
theorem gL (T:Txt K mg A) {H:Hp} {a dx:Addr} {fs:List (Str×V)} {x:Str} {v:V} {Q:V→Prop} (h:H a=some (.ins A.cLine dx fs)) (e:fs.lookup x=some v) (q:Q v) (n:x∈znF:=by decide):∃a' C dx fs v,V.ref a=.ref a'∧H a'=some (.ins C dx fs)∧Cls K C∧NoAttr K C x∧fs.lookup x=some v∧Q v:=⟨a,_,dx,fs,v,rfl,h,T.clL,T.naL x n,e,q⟩
theorem gH (T:Txt K mg A) {H:Hp} {a dx:Addr} {fs:List (Str×V)} {x:Str} {v:V} {Q:V→Prop} (h:H a=some (.ins A.cHouse dx fs)) (e:fs.lookup x=some v) (q:Q v) (n:x∈znG:=by decide):∃a' C dx fs v,V.ref a=.ref a'∧H a'=some (.ins C dx fs)∧Cls K C∧NoAttr K C x∧fs.lookup x=some v∧Q v:=⟨a,_,dx,fs,v,rfl,h,T.clH,T.naH x n,e,q⟩
theorem gB (T:Txt K mg A) {H:Hp} {a dx:Addr} {fs:List (Str×V)} {x:Str} {v:V} {Q:V→Prop} (h:H a=some (.ins A.cBid dx fs)) (e:fs.lookup x=some v) (q:Q v) (n:x∈znI:=by decide):∃a' C dx fs v,V.ref a=.ref a'∧H a'=some (.ins C dx fs)∧Cls K C∧NoAttr K C x∧fs.lookup x=some v∧Q v:=⟨a,_,dx,fs,v,rfl,h,T.clB,T.naB x n,e,q⟩
theorem gC (T:Txt K mg A) {H:Hp} {a dx:Addr} {fs:List (Str×V)} {x:Str} {v:V} {Q:V→Prop} (h:H a=some (.ins A.cCall dx fs)) (e:fs.lookup x=some v) (q:Q v) (n:x∈znH:=by decide):∃a' C dx fs v,V.ref a=.ref a'∧H a'=some (.ins C dx fs)∧Cls K C∧NoAttr K C x∧fs.lookup x=some v∧Q v:=⟨a,_,dx,fs,v,rfl,h,T.clC,T.naC x n,e,q⟩
theorem fsc {N ps:List Str} {sc:Scope} (a:sc.kind=.function:=by rfl) (b:sc.isCoroutine=false:=by rfl) (c:sc.isGenerator=false:=by rfl) (d:N.Nodup:=by decide +kernel) (e:N.take ps.length=ps:=by rfl) (f:∀x∈ps,sc.names.lookup x=some .local∨sc.names.lookup x=some .cell:=by decide +kernel) (g:∀y∈sc.names,y.2≠.free:=by decide +kernel):FnScope N ps sc:=⟨a,b,c,d,e,f,g⟩
theorem zkq (X z:Nat):decide (V.int ((X:Int) / (2 ^ z:Nat) % 2)=V.int 1)=X.testBit z:=by
 rw[zgh,Nat.testBit_eq_decide_div_mod_eq]
 by_cases h:X / 2 ^ z % 2=1
 ·rw[decide_eq_true h,beq_iff_eq];omega
 ·rw[decide_eq_false h,beq_eq_false_iff_ne];omega
def zmH:Sp:=λvs H Q _=>∃X z:Nat,vs=[.int X,.int z]∧z < 6∧Q (.bl (X.testBit z)) H
abbrev zkt:=top 22
abbrev zkV (P:Program) (w:World) (K:PySem.W.Frag) (mg:Str→Option Value) (base:Heap) (A:Ad):Prop:=FnI P w K mg base "holds" 1 ["group","zone"] (zmH)
theorem zoL (F:Fun K "holds" "holds" zkt f fd) (T:Txt K mg A):FnOk P w K mg base CX0 1 f fd ["group","zone"] (zmH):=by
 have sc:FnScope ["group","zone"] ["group","zone"] (zbK zkt):=fsc
 refine F.ok sc (by rintro _ _ _ _ ⟨X,z,rfl,_⟩;rfl) λcdv Ar outer s H vs Q E hr h=>?_
 obtain⟨X,z,rfl,h⟩:=h
 refine⟨_,(zbF (zbJ (zcN zcs (zb2 zq1 (zb2 zpW (pv 0) (zfp zjY (zkA T.r_WEIGHTS (by rfl)) (pv 1) (λ_ _=>rfl))) zbN) zbN (zbR _)))),?_⟩
 obtain⟨hz,q⟩:=h
 have hw:([1,2,4,8,16,32].map V.int)[z]? = some (V.int (2 ^ z:Nat)):=by
  match z,hz with
  | 0,_ | 1,_ | 2,_ | 3,_ | 4,_ | 5,_=>rfl
 have hp:(0:Int) < (2 ^ z:Nat)∧((2 ^ z:Nat):Int) < 1073741824:=by
  match z,hz with
  | 0,_ | 1,_ | 2,_ | 3,_ | 4,_ | 5,_=>exact⟨by decide,by decide⟩
 refine⟨_,rfl,_,rfl,_,_,_,_,rfl,rfl,T.t_WEIGHTS H,zdi hw,_,_,rfl,rfl,hp,_,_,rfl,rfl,(by show (0:Int) < 2;decide),rfl,?_⟩
 rw[zkq]
 exact q
def zk5:Sp:=λvs H Q _=>∃X s t:Nat,vs=[.int X,.int s,.int t]∧s < 6∧t < 6∧Q (.bl (Vbeman.enters X s t)) H
abbrev ziJ:=top 23
abbrev zgP (P:Program) (w:World) (K:PySem.W.Frag) (mg:Str→Option Value) (base:Heap) (A:Ad):Prop:=FnI P w K mg base "enters" 2 ["group","start","end"] (zk5)
theorem znh (F:Fun K "enters" "enters" ziJ f fd) (T:Txt K mg A) (zaG:zkV P w K mg base A):FnOk P w K mg base CX0 2 f fd ["group","start","end"] (zk5):=by
 have sc:FnScope ["group","start","end"] ["group","start","end"] (zbK ziJ):=fsc
 refine F.ok sc (by rintro _ _ _ _ ⟨X,s,t,rfl,_⟩;rfl) λcdv Ar outer s H vs Q E hr h=>?_
 obtain⟨X,s,t,rfl,h⟩:=h
 refine⟨_,(zbF (zbJ (zgq (zbH zaG (hr.mono (by decide)) (by rfl) (zbB (pv 0) (zbB (pv 2) zbD))) (zig (zpx (zbH zaG (hr.mono (by decide)) (by rfl) (zbB (pv 0) (zbB (pv 1) zbD)))))))),?_⟩
 obtain⟨hs,ht,q⟩:=h
 refine⟨_,rfl,_,rfl,X,t,rfl,ht,_,rfl,?_⟩
 refine zb9 (λh1=>?_) (λh1=>?_)
 ·refine⟨_,rfl,_,rfl,X,s,rfl,hs,_,rfl,?_⟩
  have e:Vbeman.enters X s t=!X.testBit s:=by unfold Vbeman.enters;rw[h1,Bool.true_and]
  rw[←e];exact q
 ·have e:Vbeman.enters X s t=false:=by unfold Vbeman.enters;rw[Bool.not_eq_true _ |>.mp h1,Bool.false_and]
  rw[←e];exact q
def zgo (r:Right):List (Str×V):=[("number",.int r.number),("owner",.int r.owner),("source",.int r.source),("sink",.int r.sink),("kind",.int (Vbeman.bit r.option)),("amount",.int r.amount)]
def zq6 (r:Line):List (Str×V):=[("first",.int r.a),("second",.int r.b),("forth",.int r.forth),("back",.int r.back)]
def RightAt (A:Ad) (H:Hp) (a:Addr) (r:Right):Prop:=∃dx,H a=some (.ins A.cRight dx (zgo r))
def LineAt (A:Ad) (H:Hp) (a:Addr) (r:Line):Prop:=∃dx,H a=some (.ins A.cLine dx (zq6 r))
theorem RightAt.same {H H':Hp} {a:Addr} {r:Right} (h:RightAt A H a r) (s:Same H H'):RightAt A H' a r:=let ⟨dx,e⟩:=h;⟨dx,s _ _ e⟩
theorem LineAt.same {H H':Hp} {a:Addr} {r:Line} (h:LineAt A H a r) (s:Same H H'):LineAt A H' a r:=let ⟨dx,e⟩:=h;⟨dx,s _ _ e⟩
def OkR (r:Right):Prop:=r.source < 6∧r.sink < 6
def OkL (r:Line):Prop:=r.a < 6∧r.b < 6
def zgm (A:Ad):Sp:=λvs H Q _=>∃(a:Addr) (X:Nat),vs=[.ref a,.int X]∧∃r:Right,RightAt A H a r∧OkR r∧Q (.int (Vbeman.promise X r)) H
abbrev zd1:=top 24
abbrev zdm (P:Program) (w:World) (K:PySem.W.Frag) (mg:Str→Option Value) (base:Heap) (A:Ad):Prop:=FnI P w K mg base "promised_by" 3 ["right","group"] (zgm A)
theorem zhR (F:Fun K "promised_by" "promised_by" zd1 f fd) (T:Txt K mg A) (zaw:zgP P w K mg base A):FnOk P w K mg base CX0 3 f fd ["right","group"] (zgm A):=by
 have sc:FnScope ["right","group"] ["right","group"] (zbK zd1):=fsc
 refine F.ok sc (by rintro _ _ _ _ ⟨a,X,rfl,_⟩;rfl) λcdv Ar outer s H vs Q E hr h=>?_
 obtain⟨a,X,rfl,h⟩:=h
 refine⟨_,(zbC (zbU (zcy (zbH zaw (hr.mono (by decide)) (by rfl) (zbB (pv 1) (zbB (zbE (pv 0) rfl) (zbB (zbE (pv 0) rfl) zbD))))) (zbF (zbJ (zbE (pv 0) rfl))) zbM) (zbC (zbU (PW.pt (zif (zbO zcs (zbE (pv 0) rfl) (zb6 T.i_OBLIGATION (by rfl)) (zbR _)) (zf4 (zcy (zbH zaw (hr.mono (by decide)) (by rfl) (zbB (pv 1) (zbB (zbE (pv 0) rfl) (zbB (zbE (pv 0) rfl) zbD)))))))) (zbF (zbJ (zb2 zcz zbN (zbE (pv 0) rfl)))) zbM) (zbF (zbJ zbN)))),?_⟩
 obtain⟨r,⟨dx,hR⟩,hO,q⟩:=h
 refine⟨_,rfl,⟨_,rfl,gR T hR rfl ⟨_,rfl,gR T hR rfl ⟨X,r.source,r.sink,rfl,hO.1,hO.2,⟨_,rfl,zb9 (λh1=>?_) (λh1=>?_)⟩⟩⟩⟩⟩
 ·refine⟨_,rfl,gR T hR rfl ?_⟩
  unfold Vbeman.promise at q;rw[if_pos h1] at q;exact q
 ·refine⟨_,rfl,gR T hR rfl ⟨rfl,⟨_,rfl,zb9 (λh2=>?_) (λh2=>?_)⟩⟩⟩
  ·refine⟨_,rfl,⟨_,rfl,gR T hR rfl ⟨_,rfl,gR T hR rfl ⟨X,r.sink,r.source,rfl,hO.2,hO.1,⟨_,rfl,zb9 (λh3=>?_) (λh3=>?_)⟩⟩⟩⟩⟩
   ·refine⟨_,rfl,gR T hR rfl ⟨_,_,rfl,rfl,?_⟩⟩
    have ho:r.option=false:=by
     rw[zgh,beq_iff_eq] at h2
     cases ho:r.option with
     | false=>rfl
     | true=>rw[ho] at h2;cases h2
    have e:Vbeman.promise X r=0 - r.amount:=by
     unfold Vbeman.promise
     rw[if_neg h1,if_pos ⟨ho,h3⟩,Int.zero_sub]
    rw[e] at q;exact q
   ·have e:Vbeman.promise X r=0:=by
     unfold Vbeman.promise
     rw[if_neg h1,if_neg λz=>h3 z.2]
    rw[e] at q;exact q
  ·have e:Vbeman.promise X r=0:=by
    unfold Vbeman.promise
    rw[if_neg h1,if_neg λz=>h2 (by rw[z.1];rfl)]
   rw[e] at q;exact q
def zk0 (A:Ad):Sp:=λvs H Q _=>∃(a:Addr) (X:Nat),vs=[.ref a,.int X]∧∃l:Line,LineAt A H a l∧OkL l∧Q (.int (if Vbeman.enters X l.a l.b=true then l.forth else if Vbeman.enters X l.b l.a=true then l.back else 0)) H
abbrev zg3:=top 25
abbrev zkg (P:Program) (w:World) (K:PySem.W.Frag) (mg:Str→Option Value) (base:Heap) (A:Ad):Prop:=FnI P w K mg base "room_of" 3 ["line","group"] (zk0 A)
theorem zlX (F:Fun K "room_of" "room_of" zg3 f fd) (T:Txt K mg A) (zaw:zgP P w K mg base A):FnOk P w K mg base CX0 3 f fd ["line","group"] (zk0 A):=by
 have sc:FnScope ["line","group"] ["line","group"] (zbK zg3):=fsc
 refine F.ok sc (by rintro _ _ _ _ ⟨a,X,rfl,_⟩;rfl) λcdv Ar outer s H vs Q E hr h=>?_
 obtain⟨a,X,rfl,h⟩:=h
 refine⟨_,(zbC (zbU (zcy (zbH zaw (hr.mono (by decide)) (by rfl) (zbB (pv 1) (zbB (zbE (pv 0) rfl) (zbB (zbE (pv 0) rfl) zbD))))) (zbF (zbJ (zbE (pv 0) rfl))) zbM) (zbC (zbU (zcy (zbH zaw (hr.mono (by decide)) (by rfl) (zbB (pv 1) (zbB (zbE (pv 0) rfl) (zbB (zbE (pv 0) rfl) zbD))))) (zbF (zbJ (zbE (pv 0) rfl))) zbM) (zbF (zbJ zbN)))),?_⟩
 obtain⟨l,⟨dx,hL⟩,hO,q⟩:=h
 refine⟨_,rfl,⟨_,rfl,gL T hL rfl ⟨_,rfl,gL T hL rfl ⟨X,l.a,l.b,rfl,hO.1,hO.2,⟨_,rfl,zb9 (λh1=>?_) (λh1=>?_)⟩⟩⟩⟩⟩
 ·refine⟨_,rfl,gL T hL rfl ?_⟩
  rw[if_pos h1] at q;exact q
 ·rw[if_neg h1] at q
  refine⟨_,rfl,⟨_,rfl,gL T hL rfl ⟨_,rfl,gL T hL rfl ⟨X,l.b,l.a,rfl,hO.2,hO.1,⟨_,rfl,zb9 (λh2=>?_) (λh2=>?_)⟩⟩⟩⟩⟩
  ·refine⟨_,rfl,gL T hL rfl ?_⟩
   rw[if_pos h2] at q;exact q
  ·rw[if_neg h2] at q;exact q
def AllAt {α:Type} (R:Addr→α→Prop) (as:List Addr) (xs:List α):Prop:=as.length=xs.length∧∀(i:Nat) a x,as[i]? = some a→xs[i]? = some x→R a x
theorem AllAt.imp {α:Type} {R S:Addr→α→Prop} {as:List Addr} {xs:List α} (h:AllAt R as xs) (f:∀a x,R a x→S a x):AllAt S as xs:=⟨h.1,λi a x h1 h2=>f _ _ (h.2 i a x h1 h2)⟩
def RightsAt (A:Ad) (H:Hp) (l:Addr) (rs:List Right):Prop:=∃as,H l=some (.lst (as.map V.ref))∧AllAt (RightAt A H) as rs
def LinesAt (A:Ad) (H:Hp) (l:Addr) (rs:List Line):Prop:=∃as,H l=some (.lst (as.map V.ref))∧AllAt (LineAt A H) as rs
theorem RightsAt.same {H H':Hp} {a:Addr} {r:List Right} (h:RightsAt A H a r) (s:Same H H'):RightsAt A H' a r:=let ⟨as,e,f⟩:=h;⟨as,s _ _ e,f.imp λ_ _ z=>z.same s⟩
theorem LinesAt.same {H H':Hp} {a:Addr} {r:List Line} (h:LinesAt A H a r) (s:Same H H'):LinesAt A H' a r:=let ⟨as,e,f⟩:=h;⟨as,s _ _ e,f.imp λ_ _ z=>z.same s⟩
theorem AllAt.get {α:Type} {R:Addr→α→Prop} {as:List Addr} {xs:List α} (h:AllAt R as xs) {i:Nat} {v:V} (e:(as.map V.ref)[i]? = some v):∃a x,v=.ref a∧xs[i]? = some x∧R a x:=by
 rw[List.getElem?_map] at e
 cases q:as[i]? with
 | none=>rw[q] at e;cases e
 | some a =>
  rw[q] at e;cases e
  have hi:i < xs.length:=by rw[←h.1];exact (List.getElem?_eq_some_iff.mp q).1
  exact⟨a,xs[i],rfl,List.getElem?_eq_getElem hi,h.2 i a _ q (List.getElem?_eq_getElem hi)⟩
theorem zdn (l:List Int):l.sum=Vbeman.total l:=rfl
def zeZ (A:Ad):Sp:=λvs H Q _=>∃(a:Addr) (X:Nat),vs=[.ref a,.int X]∧∃rs:List Right,RightsAt A H a rs∧(∀r∈rs,OkR r)∧rs.length≤1000∧∀H',Same H H'→Q (.int (Vbeman.promised X rs)) H'
abbrev zdr:=top 26
abbrev zdz (P:Program) (w:World) (K:PySem.W.Frag) (mg:Str→Option Value) (base:Heap) (A:Ad):Prop:=FnI P w K mg base "promised_into" 4 ["rights","group"] (zeZ A)
theorem zgH (F:Fun K "promised_into" "promised_into" zdr f fd) (T:Txt K mg A) (zaS:zdm P w K mg base A):FnOk P w K mg base CX0 4 f fd ["rights","group"] (zeZ A):=by
 have sc:FnScope ["rights","group","right"] ["rights","group"] (zbK zdr):=fsc
 refine F.ok sc (by rintro _ _ _ _ ⟨a,X,rfl,_⟩;rfl) λcdv Ar outer s H vs Q E hr h=>?_
 obtain⟨a,X,rfl,h⟩:=h
 refine⟨_,(zbF (zbJ (zbT (zht rfl) (by rfl) T.n_sum (by decide +kernel) (zbB (zfF rfl sc.nd (zcD (pv 0)) (zcr (own:=[("right",2)]) (by rfl)) (λ_ _ _ _ _=>(zbW (i:=2) sc.nd (by rfl) (by first | exact Or.inl rfl | exact Or.inr rfl) (by first | exact Or.inl rfl | exact Or.inr rfl))) (λ_ _ _ _ _=>zcV) (λ_ _ _ _ _=>(zbH zaS (hr.mono (by decide)) (by rfl) (zbB (pv 2) (zbB (pv 1) zbD))))) zbD)))),?_⟩
 obtain⟨rs,⟨as,hl,hA⟩,hO,hn,q⟩:=h
 refine⟨_,rfl,?_⟩
 dsimp only
 refine zeN (SqL.of hl) (rs.map λr=>V.int (Vbeman.promise X r)) (by rw[List.length_map,List.length_map];exact hA.1.symm) (by rw[List.length_map,hA.1];exact Nat.le_of_lt (zb0 hn)) (λi x y H2 Q' hx hy s2 q'=>?_) (λD H2 hD s2 h2=>?_)
 ·obtain⟨b,r,rfl,hr',hR⟩:=hA.get hx
  rw[List.getElem?_map,hr'] at hy
  cases hy
  refine⟨_,rfl,⟨_,rfl,?_⟩⟩
  exact⟨_,_,rfl,r,hR.same s2,hO r (List.mem_of_getElem? hr'),q' _ (Same.refl _)⟩
 ·refine⟨D,rs.map (Vbeman.promise X),rfl,SqL.of (by rw[h2,List.map_map];rfl),?_⟩
  rw[zdn]
  exact q _ s2
def zh4 (A:Ad):Sp:=λvs H Q _=>∃(a:Addr) (X:Nat),vs=[.ref a,.int X]∧∃rs:List Line,LinesAt A H a rs∧(∀r∈rs,OkL r)∧rs.length≤1000∧∀H',Same H H'→Q (.int (Vbeman.room X rs)) H'
abbrev zfe:=top 27
abbrev zfv (P:Program) (w:World) (K:PySem.W.Frag) (mg:Str→Option Value) (base:Heap) (A:Ad):Prop:=FnI P w K mg base "room_into" 4 ["lines","group"] (zh4 A)
theorem zjN (F:Fun K "room_into" "room_into" zfe f fd) (T:Txt K mg A) (za0:zkg P w K mg base A):FnOk P w K mg base CX0 4 f fd ["lines","group"] (zh4 A):=by
 have sc:FnScope ["lines","group","line"] ["lines","group"] (zbK zfe):=fsc
 refine F.ok sc (by rintro _ _ _ _ ⟨a,X,rfl,_⟩;rfl) λcdv Ar outer s H vs Q E hr h=>?_
 obtain⟨a,X,rfl,h⟩:=h
 refine⟨_,(zbF (zbJ (zbT (zht rfl) (by rfl) T.n_sum (by decide +kernel) (zbB (zfF rfl sc.nd (zcD (pv 0)) (zcr (own:=[("line",2)]) (by rfl)) (λ_ _ _ _ _=>(zbW (i:=2) sc.nd (by rfl) (by first | exact Or.inl rfl | exact Or.inr rfl) (by first | exact Or.inl rfl | exact Or.inr rfl))) (λ_ _ _ _ _=>zcV) (λ_ _ _ _ _=>(zbH za0 (hr.mono (by decide)) (by rfl) (zbB (pv 2) (zbB (pv 1) zbD))))) zbD)))),?_⟩
 obtain⟨rs,⟨as,hl,hA⟩,hO,hn,q⟩:=h
 refine⟨_,rfl,?_⟩
 dsimp only
 refine zeN (SqL.of hl) (rs.map λl=>V.int (if Vbeman.enters X l.a l.b=true then l.forth else if Vbeman.enters X l.b l.a=true then l.back else 0)) (by rw[List.length_map,List.length_map];exact hA.1.symm) (by rw[List.length_map,hA.1];exact Nat.le_of_lt (zb0 hn)) (λi x y H2 Q' hx hy s2 q'=>?_) (λD H2 hD s2 h2=>?_)
 ·obtain⟨b,r,rfl,hr',hR⟩:=hA.get hx
  rw[List.getElem?_map,hr'] at hy
  cases hy
  refine⟨_,rfl,⟨_,rfl,?_⟩⟩
  exact⟨_,_,rfl,r,hR.same s2,hO r (List.mem_of_getElem? hr'),q' _ (Same.refl _)⟩
 ·refine⟨D,rs.map (λl=>if Vbeman.enters X l.a l.b=true then l.forth else if Vbeman.enters X l.b l.a=true then l.back else 0),rfl,SqL.of (by rw[h2,List.map_map];rfl),?_⟩
  rw[zdn]
  exact q _ s2
structure NetAt (A:Ad) (H:Hp) (ll lr:Addr) (ls:List Line) (rs:List Right):Prop where
 la:LinesAt A H ll ls
 ra:RightsAt A H lr rs
 lo:∀l∈ls,OkL l
 ro:∀r∈rs,OkR r
 ln:ls.length≤1000
 rn:rs.length≤1000
theorem NetAt.same {H H':Hp} {ll lr:Addr} {ls:List Line} {rs:List Right} (h:NetAt A H ll lr ls rs) (s:Same H H'):NetAt A H' ll lr ls rs:=⟨h.la.same s,h.ra.same s,h.lo,h.ro,h.ln,h.rn⟩
def zcJ (n:Nat) (ls:List Line) (rs:List Right):List Int:=(Vbeman.groups n).map λX=>Vbeman.slack X ls rs
theorem zco (n:Nat) (ls:List Line) (rs:List Right):(zcJ n ls rs).length=2 ^ n:=by
 unfold zcJ Vbeman.groups
 rw[List.length_map,List.length_range]
def zgV (A:Ad):Sp:=λvs H Q _=>∃(n:Nat) (ll lr:Addr),vs=[.int n,.ref ll,.ref lr]∧∃ls rs,n≤6∧NetAt A H ll lr ls rs∧∀H' p,Same H H'→H p=none→H' p=some (.lst ((zcJ n ls rs).map V.int))→Q (.ref p) H'
abbrev zex:=top 28
abbrev zct (P:Program) (w:World) (K:PySem.W.Frag) (mg:Str→Option Value) (base:Heap) (A:Ad):Prop:=FnI P w K mg base "slack_list" 5 ["zones","lines","rights"] (zgV A)
theorem ziX (F:Fun K "slack_list" "slack_list" zex f fd) (T:Txt K mg A) (zaZ:zfv P w K mg base A) (zaT:zdz P w K mg base A):FnOk P w K mg base CX0 5 f fd ["zones","lines","rights"] (zgV A):=by
 have sc:FnScope ["zones","lines","rights","group"] ["zones","lines","rights"] (zbK zex):=fsc
 refine F.ok sc (by rintro _ _ _ _ ⟨n,ll,lr,rfl,_⟩;rfl) λcdv Ar outer s H vs Q E hr h=>?_
 obtain⟨n,ll,lr,rfl,h⟩:=h
 refine⟨_,(zbF (zbJ (zfF rfl sc.nd (zjE (by rfl) T.n_range (zbB (zfp zjY (zkA T.r_GROUP_COUNTS (by rfl)) (pv 0) (λ_ _=>rfl)) zbD)) (zcr (own:=[("group",3)]) (by rfl)) (λ_ _ _ _ _=>(zbW (i:=3) sc.nd (by rfl) (by first | exact Or.inl rfl | exact Or.inr rfl) (by first | exact Or.inl rfl | exact Or.inr rfl))) (λ_ _ _ _ _=>zcV) (λ_ _ _ _ _=>(zb2 zcz (zbH zaZ (hr.mono (by decide)) (by rfl) (zbB (pv 1) (zbB (pv 3) zbD))) (zbH zaT (hr.mono (by decide)) (by rfl) (zbB (pv 2) (zbB (pv 3) zbD)))))))),?_⟩
 obtain⟨ls,rs,hn,N,q⟩:=h
 have hw:([1,2,4,8,16,32,64].map V.int)[n]? = some (V.int (2 ^ n:Nat)):=by
  match n,hn with
  | 0,_ | 1,_ | 2,_ | 3,_ | 4,_ | 5,_ | 6,_=>rfl
 have hp:(2 ^ n:Nat)≤64:=Nat.pow_le_pow_right (by decide) hn
 have hp0:(0:Int)≤((2 ^ n:Nat):Int):=Int.natCast_nonneg _
 have hp1:((2 ^ n:Nat):Int)≤64:=Int.ofNat_le.mpr hp
 have hp2:(2 ^ n:Nat)≤sizeLine:=Nat.le_trans hp (by decide)
 refine⟨_,rfl,_,_,_,_,rfl,rfl,T.t_GROUP_COUNTS H,zdi hw,_,rfl,Int.le_trans (by decide) hp0,Int.lt_of_le_of_lt hp1 (by decide),?_⟩
 dsimp only
 refine zil ((zcJ n ls rs).map V.int) (by rw[List.length_map,zco];rfl) hp2 (λi y H2 Q' hi hy s2 q'=>?_) (λD H2 hD s2 h2=>?_)
 ·have hy':(zcJ n ls rs)[i]? = some (Vbeman.slack i ls rs):=by
   have h3:i < 2 ^ n:=hi
   unfold zcJ Vbeman.groups
   rw[List.getElem?_map,List.getElem?_range h3]
   rfl
  rw[List.getElem?_map,hy'] at hy
  cases hy
  have N2:=N.same s2
  refine⟨_,rfl,⟨_,rfl,?_⟩⟩
  refine⟨_,i,by rw[Int.zero_add];rfl,ls,N2.la,N2.lo,N2.ln,λH3 s3=>?_⟩
  have N3:=N2.same s3
  refine⟨_,rfl,⟨_,rfl,?_⟩⟩
  refine⟨_,i,by rw[Int.zero_add];rfl,rs,N3.ra,N3.ro,N3.rn,λH4 s4=>?_⟩
  exact⟨_,_,rfl,rfl,q' _ (s3.trans s4)⟩
 ·exact q H2 D s2 hD h2
theorem zlm {n:Nat} {ls:List Line} {rs:List Right} {m:Int} (h1:m∈zcJ n ls rs) (h2:∀y,y∈zcJ n ls rs→m≤y):decide (0≤m)=Vbeman.safe n ls rs:=by
 unfold Vbeman.safe
 rw[Bool.eq_iff_iff,decide_eq_true_iff,List.all_eq_true]
 constructor
 ·intro h X hX
  rw[decide_eq_true_iff]
  exact Int.le_trans h (h2 _ (List.mem_map.mpr ⟨X,hX,rfl⟩))
 ·intro h
  obtain⟨X,hX,e⟩:=List.mem_map.mp h1
  have:=h X hX
  rw[decide_eq_true_iff] at this
  rw[←e];exact this
def zk2 (A:Ad):Sp:=λvs H Q _=>∃(n:Nat) (ll lr:Addr),vs=[.int n,.ref ll,.ref lr]∧∃ls rs,n≤6∧NetAt A H ll lr ls rs∧∀H',Same H H'→Q (.bl (Vbeman.safe n ls rs)) H'
abbrev zg7:=top 29
abbrev zdR (P:Program) (w:World) (K:PySem.W.Frag) (mg:Str→Option Value) (base:Heap) (A:Ad):Prop:=FnI P w K mg base "is_safe" 6 ["zones","lines","rights"] (zk2 A)
theorem zl1 (F:Fun K "is_safe" "is_safe" zg7 f fd) (T:Txt K mg A) (za6:zct P w K mg base A):FnOk P w K mg base CX0 6 f fd ["zones","lines","rights"] (zk2 A):=by
 have sc:FnScope ["zones","lines","rights"] ["zones","lines","rights"] (zbK zg7):=fsc
 refine F.ok sc (by rintro _ _ _ _ ⟨n,ll,lr,rfl,_⟩;rfl) λcdv Ar outer s H vs Q E hr h=>?_
 obtain⟨n,ll,lr,rfl,h⟩:=h
 refine⟨_,(zbF (zbJ (zcN zlW (zbT (zlx rfl) (by rfl) T.n_min (by decide +kernel) (zbB (zbH za6 (hr.mono (by decide)) (by rfl) (zbB (pv 0) (zbB (pv 1) (zbB (pv 2) zbD)))) zbD)) zbN (zbR _)))),?_⟩
 obtain⟨ls,rs,hn,N,q⟩:=h
 refine⟨_,rfl,⟨_,rfl,⟨_,rfl,?_⟩⟩⟩
 refine⟨n,ll,lr,rfl,ls,rs,hn,N,λH2 p s2 hp h2=>?_⟩
 refine⟨p,zcJ n ls rs,rfl,SqL.of h2,by rw[zco];exact Nat.two_pow_pos n,λm h3 h4=>⟨_,_,rfl,rfl,?_⟩⟩
 have e:=zlm h3 h4
 rw[←e] at q
 exact q _ s2
end
end Z
namespace Z
open PySem PySem.Spec PyProof.Rows L2
open Vbeman (Line Right House Bid)
section
variable {P : Program} {w : World} {K : PySem.W.Frag} {mg : Str → Option Value} {base : Heap} {A : Ad} {f : Addr} {fd : FuncData}
theorem zfM {α:Type} (p:α→Bool) (f:α→Int):∀(l:List α) (B:Int),
  l.foldl (λm X=>if p X=true then min m (f X) else m) B≤B∧(∀X∈l,p X=true→l.foldl (λm X=>if p X=true then min m (f X) else m) B≤f X) ∧
  (l.foldl (λm X=>if p X=true then min m (f X) else m) B=B∨∃X∈l,p X=true∧l.foldl (λm X=>if p X=true then min m (f X) else m) B=f X)
 | [],B=>⟨Int.le_refl _,λ_ h=>(List.not_mem_nil h).elim,.inl rfl⟩
 | a::l,B=>by
  rw[List.foldl_cons]
  obtain⟨h1,h2,h3⟩:=zfM p f l (if p a=true then min B (f a) else B)
  have hle:(if p a=true then min B (f a) else B)≤B:=by
   split
   ·exact Int.min_le_left _ _
   ·exact Int.le_refl _
  refine⟨Int.le_trans h1 hle,λX hX hp=>?_,?_⟩
  ·rcases List.mem_cons.mp hX with rfl | hX
   ·refine Int.le_trans h1 ?_
    rw[if_pos hp]
    exact Int.min_le_right _ _
   ·exact h2 X hX hp
  ·rcases h3 with h3 | ⟨X,hX,hp,h3⟩
   ·by_cases hp:p a=true
    ·rw[h3,if_pos hp]
     rcases Int.le_total B (f a) with h | h
     ·left;exact Int.min_eq_left h
     ·right;exact⟨a,List.mem_cons_self ..,hp,Int.min_eq_right h⟩
    ·left;rw[h3,if_neg hp]
   ·right;exact⟨X,List.mem_cons_of_mem _ hX,hp,h3⟩
def zl9 (n:Nat) (ss:List Int) (s t:Nat):Int:=(Vbeman.groups n).foldl (λ(m:Int) X=>if Vbeman.enters X s t=true then min m (ss.getD X 0) else m) Vbeman.BIG
theorem zhr {α β:Type} {f g:β→α→β}:∀{l:List α} {b:β},(∀b x,x∈l→f b x=g b x)→l.foldl f b=l.foldl g b
 | [],_,_=>rfl
 | a::l,b,h=>by
  rw[List.foldl_cons,List.foldl_cons,h b a (List.mem_cons_self ..)]
  exact zhr λb x hx=>h b x (List.mem_cons_of_mem _ hx)
theorem ze8 {n:Nat} {ls:List Line} {rs:List Right} {X:Nat} (h:X < 2 ^ n):(zcJ n ls rs).getD X 0=Vbeman.slack X ls rs:=by
 unfold zcJ Vbeman.groups
 rw[List.getD_eq_getElem?_getD,List.getElem?_map,List.getElem?_range h]
 rfl
theorem zfH (n:Nat) (ls:List Line) (rs:List Right) (s t:Nat):zl9 n (zcJ n ls rs) s t=Vbeman.mostFor n ls rs s t:=by
 unfold zl9 Vbeman.mostFor
 refine zhr λb X hX=>?_
 rw[ze8 (List.mem_range.mp hX)]
def zdl (n:Nat) (ss:List Int) (s t:Nat):List Int:=(List.range (2 ^ n)).filterMap λX=>if Vbeman.enters X s t=true then some (ss.getD X 0) else none
theorem mem_entered {n:Nat} {ss:List Int} {s t:Nat} {m:Int}:m∈zdl n ss s t↔∃X,X < 2 ^ n∧Vbeman.enters X s t=true∧ss.getD X 0=m:=by
 unfold zdl
 rw[List.mem_filterMap]
 constructor
 ·rintro ⟨X,hX,e⟩
  by_cases h:Vbeman.enters X s t=true
  ·rw[if_pos h] at e
   exact⟨X,List.mem_range.mp hX,h,Option.some.inj e⟩
  ·rw[if_neg h] at e;cases e
 ·rintro ⟨X,hX,h,e⟩
  exact⟨X,List.mem_range.mpr hX,by rw[if_pos h,e]⟩
theorem zj5 {n:Nat} (ss:List Int) {s t:Nat} (hs:s≠t) (ht:t < n):0 < (zdl n ss s t).length:=by
 have h:ss.getD (2 ^ t) 0∈zdl n ss s t:=by
  refine mem_entered.mpr ⟨2 ^ t,Nat.pow_lt_pow_right (by decide) ht,?_,rfl⟩
  unfold Vbeman.enters
  rw[Nat.testBit_two_pow,Nat.testBit_two_pow,decide_eq_true rfl,decide_eq_false (λe=>hs e.symm)]
  rfl
 exact List.length_pos_of_mem h
theorem zkL {n:Nat} {ss:List Int} {s t:Nat} {m:Int} (h1:m∈zdl n ss s t) (h2:∀y,y∈zdl n ss s t→m≤y):(if (1000000000:Int) < m then 1000000000 else m)=zl9 n ss s t:=by
 obtain⟨a,b,c⟩:=zfM (λX=>Vbeman.enters X s t) (λX=>ss.getD X 0) (Vbeman.groups n) Vbeman.BIG
 obtain⟨X,hX,hp,e⟩:=mem_entered.mp h1
 have b1:=b X (List.mem_range.mpr hX) hp
 show _=(Vbeman.groups n).foldl _ _
 rw[e] at b1
 have hB:Vbeman.BIG=1000000000:=rfl
 rcases c with c | ⟨Y,hY,hq,c⟩
 ·rw[c] at b1
  refine Eq.trans ?_ c.symm
  rw[hB] at b1 ⊢
  split <;> omega
 ·have h3:=h2 _ (mem_entered.mpr ⟨Y,List.mem_range.mp hY,hq,rfl⟩)
  rw[c] at a b1
  refine Eq.trans ?_ c.symm
  rw[hB] at a
  split <;> omega
def zfz:Sp:=λvs H Q _=>∃(p:Addr) (s t:Nat),vs=[.ref p,.int s,.int t]∧∃(n:Nat) (ss:List Int),ss.length=2 ^ n∧n≤6∧s < n∧t < n∧s≠t∧H p=some (.lst (ss.map V.int))∧∀H',Same H H'→Q (.int (zl9 n ss s t)) H'
theorem zkN {ss:List Int} {i:Nat} {x:V} (h:(ss.map V.int)[i]? = some x):x=V.int (ss.getD i 0):=by
 rw[List.getElem?_map] at h
 rw[List.getD_eq_getElem?_getD]
 cases e:ss[i]? with
 | none=>rw[e] at h;cases h
 | some v=>rw[e] at h;exact (Option.some.inj h).symm
abbrev zdG:=top 30
abbrev zcA (P:Program) (w:World) (K:PySem.W.Frag) (mg:Str→Option Value) (base:Heap) (A:Ad):Prop:=FnI P w K mg base "most_between" 3 ["slacks","source","sink"] (zfz)
theorem zhh (F:Fun K "most_between" "most_between" zdG f fd) (T:Txt K mg A) (zaw:zgP P w K mg base A):FnOk P w K mg base CX0 3 f fd ["slacks","source","sink"] (zfz):=by
 have sc:FnScope ["slacks","source","sink","entered","group","slack"] ["slacks","source","sink"] (zbK zdG):=fsc
 refine F.ok sc (by rintro _ _ _ _ ⟨p,s',t,rfl,_⟩;rfl) λcdv Ar outer s H vs Q E hr h=>?_
 obtain⟨p,s',t,rfl,h⟩:=h
 refine⟨_,(zbC (zld (i:=3) rfl sc.nd rfl rfl (zmz rfl rfl rfl rfl) (zkz (by rfl) T.n_enumerate (zbB (pv 0) zbD)) (zcr (own:=[("group",4),("slack",5)]) (by rfl)) (λ_ _ _ _ _=>(zeE (Kf:=K) (n:=2) (by rfl) (by rfl) (zck (zbW (i:=4) sc.nd (by rfl) (by first | exact Or.inl rfl | exact Or.inr rfl) (by first | exact Or.inl rfl | exact Or.inr rfl)) (zck (zbW (i:=5) sc.nd (by rfl) (by first | exact Or.inl rfl | exact Or.inr rfl) (by first | exact Or.inl rfl | exact Or.inr rfl)) zd6)))) (λ_ _ _ _ _=>(zmW (zcy (zbH zaw (hr.mono (by decide)) (by rfl) (zbB (pv 4) (zbB (pv 1) (zbB (pv 2) zbD))))))) (λ_ _ _ _ _=>(pv 5))) (zbF (zbJ (zbT (zhx rfl) (by rfl) T.n_min (by decide +kernel) (zbB (zbT (zlx rfl) (by rfl) T.n_min (by decide +kernel) (zbB (pv 3) zbD)) (zbB (zb6 T.i_MOST_AMOUNT (by rfl)) zbD)))))),?_⟩
 obtain⟨n,ss,hl,hn,hs,ht,hst,hp,q⟩:=h
 have h64:(2 ^ n:Nat)≤64:=Nat.pow_le_pow_right (by decide) hn
 refine⟨_,rfl,?_⟩
 dsimp only
 refine zhu (SqL.of hp) (by rw[List.length_map,hl];exact Nat.le_trans h64 (by decide)) (by decide) (λX=>Vbeman.enters X s' t) (λX=>V.int (ss.getD X 0)) (λi x H2 Q' hx s2 q'=>?_) (λi x H2 Q' hx hb s2 q'=>?_) (λD H2 hD s2 h2=>?_)
 ·refine⟨_,rfl,⟨_,rfl,⟨_,rfl,?_⟩⟩⟩
  exact⟨i,s',t,rfl,by omega,by omega,_,rfl,q' _ (Same.refl _)⟩
 ·rw[zkN hx]
  refine⟨_,rfl,?_⟩
  exact q' _ (Same.refl _)
 ·have e:((List.range (ss.map V.int).length).filterMap λX=>if Vbeman.enters X s' t=true then some (V.int (ss.getD X 0)) else none)=(zdl n ss s' t).map V.int:=by
   unfold zdl
   rw[List.map_filterMap,List.length_map,hl]
   congr 1
   funext X
   split <;> rfl
  rw[e] at h2
  refine⟨_,rfl,?_⟩
  refine⟨D,zdl n ss s' t,rfl,SqL.of h2,zj5 ss hst ht,λm h3 h4=>⟨_,_,rfl,?_⟩⟩
  have e2:=zkL h3 h4
  rw[←e2] at q
  exact q _ s2
end
end Z
namespace Z
open PySem PySem.Spec PyProof.Rows L2
open Vbeman (Line Right House Bid)
section
variable {P : Program} {w : World} {K : PySem.W.Frag} {mg : Str → Option Value} {base : Heap} {A : Ad} {f : Addr} {fd : FuncData}
def zpp (r:Right):List V:=[.int r.number,.int r.owner,.int r.source,.int r.sink,.int (Vbeman.bit r.option),.int r.amount]
def zq5 (r:Line):List V:=[.int r.a,.int r.b,.int r.forth,.int r.back]
def ze7 (A:Ad):Sp:=λvs H Q _=>∃(x:Addr) (r:Right),vs=.ref x::zpp r∧∃dx,H x=some (.ins A.cRight dx [])∧Q .non (upd H x (.ins A.cRight dx (zgo r)))
abbrev zeA:=zdy (top 9) 0
abbrev zeQ (P:Program) (w:World) (K:PySem.W.Frag) (mg:Str→Option Value) (base:Heap) (A:Ad):Prop:=MkI P w K mg base "Right" A.cRight 1 ["self","number","owner","source","sink","kind","amount"] (ze7 A)
theorem zi0 (F:Fun K "__init__" "Right.__init__" zeA f fd) (T:Txt K mg A):FnOk P w K mg base CX0 1 f fd ["self","number","owner","source","sink","kind","amount"] (ze7 A):=by
 have sc:FnScope ["self","number","owner","source","sink","kind","amount"] ["self","number","owner","source","sink","kind","amount"] (zbK zeA):=fsc
 refine F.ok sc (by rintro _ _ _ _ ⟨x,r,rfl,_⟩;rfl) λcdv Ar outer s H vs Q E hr h=>?_
 obtain⟨x,r,rfl,h⟩:=h
 refine⟨_,(zbC (zbX (pv 0) (pv 1) rfl) (zbC (zbX (pv 0) (pv 2) rfl) (zbC (zbX (pv 0) (pv 3) rfl) (zbC (zbX (pv 0) (pv 4) rfl) (zbC (zbX (pv 0) (pv 5) rfl) (zbF (zbX (pv 0) (pv 6) rfl))))))),?_⟩
 obtain⟨dx,hx,q⟩:=h
 refine⟨_,rfl,_,rfl,x,_,dx,[],rfl,hx,T.clR,T.naR _ (by decide),(by show 0 < 1000;decide),?_⟩
 refine⟨_,rfl,_,rfl,x,_,dx,[("number",.int r.number)],rfl,zbG,T.clR,T.naR _ (by decide),(by show 1 < 1000;decide),?_⟩
 rw[zcg]
 refine⟨_,rfl,_,rfl,x,_,dx,[("number",.int r.number),("owner",.int r.owner)],rfl,zbG,T.clR,T.naR _ (by decide),(by show 2 < 1000;decide),?_⟩
 rw[zcg]
 refine⟨_,rfl,_,rfl,x,_,dx,[("number",.int r.number),("owner",.int r.owner),("source",.int r.source)],rfl,zbG,T.clR,T.naR _ (by decide),(by show 3 < 1000;decide),?_⟩
 rw[zcg]
 refine⟨_,rfl,_,rfl,x,_,dx,[("number",.int r.number),("owner",.int r.owner),("source",.int r.source),("sink",.int r.sink)],rfl,zbG,T.clR,T.naR _ (by decide),(by show 4 < 1000;decide),?_⟩
 rw[zcg]
 refine⟨_,rfl,_,rfl,x,_,dx,[("number",.int r.number),("owner",.int r.owner),("source",.int r.source),("sink",.int r.sink),("kind",.int (Vbeman.bit r.option))],rfl,zbG,T.clR,T.naR _ (by decide),(by show 5 < 1000;decide),?_⟩
 rw[zcg]
 exact q
def zfY (A:Ad):Sp:=λvs H Q _=>∃(x:Addr) (r:Line),vs=.ref x::zq5 r∧∃dx,H x=some (.ins A.cLine dx [])∧Q .non (upd H x (.ins A.cLine dx (zq6 r)))
abbrev zfl:=zdy (top 8) 0
abbrev zn3 (P:Program) (w:World) (K:PySem.W.Frag) (mg:Str→Option Value) (base:Heap) (A:Ad):Prop:=MkI P w K mg base "Line" A.cLine 1 ["self","first","second","forth","back"] (zfY A)
theorem zjU (F:Fun K "__init__" "Line.__init__" zfl f fd) (T:Txt K mg A):FnOk P w K mg base CX0 1 f fd ["self","first","second","forth","back"] (zfY A):=by
 have sc:FnScope ["self","first","second","forth","back"] ["self","first","second","forth","back"] (zbK zfl):=fsc
 refine F.ok sc (by rintro _ _ _ _ ⟨x,r,rfl,_⟩;rfl) λcdv Ar outer s H vs Q E hr h=>?_
 obtain⟨x,r,rfl,h⟩:=h
 refine⟨_,(zbC (zbX (pv 0) (pv 1) rfl) (zbC (zbX (pv 0) (pv 2) rfl) (zbC (zbX (pv 0) (pv 3) rfl) (zbF (zbX (pv 0) (pv 4) rfl))))),?_⟩
 obtain⟨dx,hx,q⟩:=h
 refine⟨_,rfl,_,rfl,x,_,dx,[],rfl,hx,T.clL,T.naL _ (by decide),(by show 0 < 1000;decide),?_⟩
 refine⟨_,rfl,_,rfl,x,_,dx,[("first",.int r.a)],rfl,zbG,T.clL,T.naL _ (by decide),(by show 1 < 1000;decide),?_⟩
 rw[zcg]
 refine⟨_,rfl,_,rfl,x,_,dx,[("first",.int r.a),("second",.int r.b)],rfl,zbG,T.clL,T.naL _ (by decide),(by show 2 < 1000;decide),?_⟩
 rw[zcg]
 refine⟨_,rfl,_,rfl,x,_,dx,[("first",.int r.a),("second",.int r.b),("forth",.int r.forth)],rfl,zbG,T.clL,T.naL _ (by decide),(by show 3 < 1000;decide),?_⟩
 rw[zcg]
 exact q
theorem zfI {H:Hp} {x dx C:Addr} {o:HO} (nx:H x=none) (nd:H dx=none):Same H (upd (upd (upd H dx (.own x)) x (.ins C dx [])) x o):=λb u e=>by
 rw[zbL (zbI e nx),zbL (zbI e nx),zbL (zbI e nd)]
 exact e
theorem zdC {H:Hp} {r:Right} {Q:Addr→Hp→Prop} {E:XK} {vs:List V} (q:∀H2 x,H x=none→Same H H2→RightAt A H2 x r→Q x H2) (hv:vs=zpp r:=by rfl) :
  ∀x dx,H x=none→H dx=none→dx≠x→ze7 A (.ref x::(vs++[])) (upd (upd H dx (.own x)) x (.ins A.cRight dx [])) (λv H2=>v=.non∧Q x H2) E:=by
 intro x dx nx nd ne
 rw[List.append_nil,hv]
 exact⟨x,r,rfl,dx,zbG,rfl,q _ x nx (zfI nx nd) ⟨dx,zbG⟩⟩
theorem znn {H:Hp} {r:Line} {Q:Addr→Hp→Prop} {E:XK} {vs:List V} (q:∀H2 x,H x=none→Same H H2→LineAt A H2 x r→Q x H2) (hv:vs=zq5 r:=by rfl) :
  ∀x dx,H x=none→H dx=none→dx≠x→zfY A (.ref x::(vs++[])) (upd (upd H dx (.own x)) x (.ins A.cLine dx [])) (λv H2=>v=.non∧Q x H2) E:=by
 intro x dx nx nd ne
 rw[List.append_nil,hv]
 exact⟨x,r,rfl,dx,zbG,rfl,q _ x nx (zfI nx nd) ⟨dx,zbG⟩⟩
def zrm (ss:List Int) (r:Right):List Int:=(List.range ss.length).map λX=>ss.getD X 0 + Vbeman.promise X r
def zqO (ss:List Int) (r:Right):List Int:=(List.range ss.length).map λX=>ss.getD X 0 - Vbeman.promise X r
theorem zfN {α:Type} (f:Nat→α) (n:Nat):((List.range n).filterMap λi=>if true=true then some (f i) else none)=(List.range n).map f:=by
 rw[←List.filterMap_eq_map]
 rfl
def zgM (A:Ad) (g:List Int→Right→List Int):Sp:=λvs H Q _=>∃(p a:Addr),vs=[.ref p,.ref a]∧∃(ss:List Int) (r:Right),ss.length≤1000∧H p=some (.lst (ss.map V.int))∧RightAt A H a r∧OkR r∧∀H' p',Same H H'→H p'=none→H' p'=some (.lst ((g ss r).map V.int))→Q (.ref p') H'
abbrev zdd:=top 31
abbrev zei (P:Program) (w:World) (K:PySem.W.Frag) (mg:Str→Option Value) (base:Heap) (A:Ad):Prop:=FnI P w K mg base "slacks_without" 4 ["slacks","right"] (zgM A zrm)
theorem zf5 (F:Fun K "slacks_without" "slacks_without" zdd f fd) (T:Txt K mg A) (zaS:zdm P w K mg base A):FnOk P w K mg base CX0 4 f fd ["slacks","right"] (zgM A zrm):=by
 have sc:FnScope ["slacks","right","group","slack"] ["slacks","right"] (zbK zdd):=fsc
 refine F.ok sc (by rintro _ _ _ _ ⟨p,a,rfl,_⟩;rfl) λcdv Ar outer s H vs Q E hr h=>?_
 obtain⟨p,a,rfl,h⟩:=h
 refine⟨_,(zbF (zbJ (zfF rfl sc.nd (zkz (by rfl) T.n_enumerate (zbB (pv 0) zbD)) (zcr (own:=[("group",2),("slack",3)]) (by rfl)) (λ_ _ _ _ _=>(zeE (Kf:=K) (n:=2) (by rfl) (by rfl) (zck (zbW (i:=2) sc.nd (by rfl) (by first | exact Or.inl rfl | exact Or.inr rfl) (by first | exact Or.inl rfl | exact Or.inr rfl)) (zck (zbW (i:=3) sc.nd (by rfl) (by first | exact Or.inl rfl | exact Or.inr rfl) (by first | exact Or.inl rfl | exact Or.inr rfl)) zd6)))) (λ_ _ _ _ _=>zcV) (λ_ _ _ _ _=>(zb2 zcK (pv 3) (zbH zaS (hr.mono (by decide)) (by rfl) (zbB (pv 1) (zbB (pv 2) zbD)))))))),?_⟩
 obtain⟨ss,r,hl,hp,hR,hO,q⟩:=h
 refine⟨_,rfl,?_⟩
 dsimp only
 refine zhu (SqL.of hp) (by rw[List.length_map];exact Nat.le_of_lt (zb0 hl)) (by decide) (λ_=>true) (λX=>V.int (ss.getD X 0 + Vbeman.promise X r)) (λi x H2 Q' hx s2 q'=>q' _ (Same.refl _)) (λi x H2 Q' hx hb s2 q'=>?_) (λD H2 hD s2 h2=>?_)
 ·rw[zkN hx]
  refine⟨_,rfl,⟨_,rfl,⟨_,rfl,?_⟩⟩⟩
  exact⟨a,i,rfl,r,hR.same s2,hO,_,_,rfl,rfl,q' _ (Same.refl _)⟩
 ·rw[zfN,List.length_map] at h2
  exact q _ _ s2 hD (by rw[h2];unfold zrm;rw[List.map_map];rfl)
abbrev zdY:=top 32
abbrev zfR (P:Program) (w:World) (K:PySem.W.Frag) (mg:Str→Option Value) (base:Heap) (A:Ad):Prop:=FnI P w K mg base "slacks_with" 4 ["slacks","right"] (zgM A zqO)
theorem zhO (F:Fun K "slacks_with" "slacks_with" zdY f fd) (T:Txt K mg A) (zaS:zdm P w K mg base A):FnOk P w K mg base CX0 4 f fd ["slacks","right"] (zgM A zqO):=by
 have sc:FnScope ["slacks","right","group","slack"] ["slacks","right"] (zbK zdY):=fsc
 refine F.ok sc (by rintro _ _ _ _ ⟨p,a,rfl,_⟩;rfl) λcdv Ar outer s H vs Q E hr h=>?_
 obtain⟨p,a,rfl,h⟩:=h
 refine⟨_,(zbF (zbJ (zfF rfl sc.nd (zkz (by rfl) T.n_enumerate (zbB (pv 0) zbD)) (zcr (own:=[("group",2),("slack",3)]) (by rfl)) (λ_ _ _ _ _=>(zeE (Kf:=K) (n:=2) (by rfl) (by rfl) (zck (zbW (i:=2) sc.nd (by rfl) (by first | exact Or.inl rfl | exact Or.inr rfl) (by first | exact Or.inl rfl | exact Or.inr rfl)) (zck (zbW (i:=3) sc.nd (by rfl) (by first | exact Or.inl rfl | exact Or.inr rfl) (by first | exact Or.inl rfl | exact Or.inr rfl)) zd6)))) (λ_ _ _ _ _=>zcV) (λ_ _ _ _ _=>(zb2 zcz (pv 3) (zbH zaS (hr.mono (by decide)) (by rfl) (zbB (pv 1) (zbB (pv 2) zbD)))))))),?_⟩
 obtain⟨ss,r,hl,hp,hR,hO,q⟩:=h
 refine⟨_,rfl,?_⟩
 dsimp only
 refine zhu (SqL.of hp) (by rw[List.length_map];exact Nat.le_of_lt (zb0 hl)) (by decide) (λ_=>true) (λX=>V.int (ss.getD X 0 - Vbeman.promise X r)) (λi x H2 Q' hx s2 q'=>q' _ (Same.refl _)) (λi x H2 Q' hx hb s2 q'=>?_) (λD H2 hD s2 h2=>?_)
 ·rw[zkN hx]
  refine⟨_,rfl,⟨_,rfl,⟨_,rfl,?_⟩⟩⟩
  exact⟨a,i,rfl,r,hR.same s2,hO,_,_,rfl,rfl,q' _ (Same.refl _)⟩
 ·rw[zfN,List.length_map] at h2
  exact q _ _ s2 hD (by rw[h2];unfold zqO;rw[List.map_map];rfl)
def zqx (A:Ad) (H:Hp) (v:V):Option Right→Prop
 | none=>v=.non
 | some r=>∃a,v=.ref a∧RightAt A H a r
theorem zjq {α:Type} {p:α→Bool} {l:List α} {i:Nat} {x:α} (h:l[i]? = some x) (hn:(l.take i).find? p=none):(p x=true→l.find? p=some x)∧(¬p x=true→(l.take (i + 1)).find? p=none):=by
 constructor
 ·intro hp
  have e:l=l.take i++x::l.drop (i + 1):=by
   have:=List.getElem_cons_drop (List.getElem?_eq_some_iff.mp h).1
   rw[(List.getElem?_eq_some_iff.mp h).2] at this
   rw[this,List.take_append_drop]
  rw[e,List.find?_append,hn]
  show (x::_).find? p=some x
  rw[List.find?_cons_of_pos hp]
 ·intro hp
  rw[L2.zb4 h,List.find?_append,hn]
  show [x].find? p=none
  rw[List.find?_cons_of_neg hp]
  rfl
def zri (r:Bid):List (Str×V):=[("number",.int r.number),("owner",.int r.owner),("source",.int r.source),("sink",.int r.sink),("kind",.int (Vbeman.bit r.option)),("left",.int r.left),("price",.int r.price)]
def BidAt (A:Ad) (H:Hp) (a:Addr) (r:Bid):Prop:=∃dx,H a=some (.ins A.cBid dx (zri r))
theorem BidAt.same {H H':Hp} {a:Addr} {r:Bid} (h:BidAt A H a r) (s:Same H H'):BidAt A H' a r:=let ⟨dx,e⟩:=h;⟨dx,s _ _ e⟩
def BidsAt (A:Ad) (H:Hp) (l:Addr) (rs:List Bid):Prop:=∃as,H l=some (.lst (as.map V.ref))∧AllAt (BidAt A H) as rs
theorem BidsAt.same {H H':Hp} {a:Addr} {r:List Bid} (h:BidsAt A H a r) (s:Same H H'):BidsAt A H' a r:=let ⟨as,e,f⟩:=h;⟨as,s _ _ e,f.imp λ_ _ z=>z.same s⟩
def zn9 (A:Ad) (H:Hp) (v:V):Option Bid→Prop
 | none=>v=.non
 | some r=>∃a,v=.ref a∧BidAt A H a r
def zpb (K:PySem.W.Frag) (H:Hp) (as:List Addr) (ns:List Nat):Prop:=AllAt (λa n=>∃C dx fs,H a=some (.ins C dx fs)∧Cls K C∧NoAttr K C "number"∧fs.lookup ("number":Str)=some (V.int (n:Nat))) as ns
def zk4 (A:Ad) (K:PySem.W.Frag):Sp:=λvs H Q _=>∃(lr:Addr) (k:Nat),vs=[.ref lr,.int k]∧∃as ns,H lr=some (.lst (as.map V.ref))∧zpb K H as ns∧∀v,(match (as.zip ns).find? λp=>p.2 == k with | none=>v=.non | some p=>v=.ref p.1)→Q v H
theorem zix {α β:Type} {l:List α} {m:List β} {i:Nat} {x:α} {y:β} (h1:l[i]? = some x) (h2:m[i]? = some y):(l.zip m)[i]? = some (x,y):=by
 rw[List.getElem?_zip_eq_some];exact⟨h1,h2⟩
abbrev zds:=top 14
abbrev zb1 (P:Program) (w:World) (K:PySem.W.Frag) (mg:Str→Option Value) (base:Heap) (A:Ad):Prop:=FnI P w K mg base "find_numbered" 1 ["things","number"] (zk4 A K)
theorem zgI (F:Fun K "find_numbered" "find_numbered" zds f fd) (T:Txt K mg A):FnOk P w K mg base CX0 1 f fd ["things","number"] (zk4 A K):=by
 have sc:FnScope ["things","number","thing"] ["things","number"] (zbK zds):=fsc
 refine F.ok sc (by rintro _ _ _ _ ⟨lr,k,rfl,_⟩;rfl) λcdv Ar outer s H vs Q E hr h=>?_
 obtain⟨lr,k,rfl,h⟩:=h
 refine⟨_,(zbC (zdv PassesOwn.never rfl (zcD (pv 0)) (zbW (i:=2) sc.nd (by rfl) (by first | exact Or.inl rfl | exact Or.inr rfl) (by first | exact Or.inl rfl | exact Or.inr rfl)) (zbF (zbU (zbO zcs (zbE (pv 2) rfl) (pv 1) (zbR _)) (zbF (zbJ (pv 2))) zbM))) (zbF (zbJ zmZ))),?_⟩
 obtain⟨as,ns,hl,hA,q⟩:=h
 refine⟨_,rfl,?_⟩
 refine⟨lr,rfl,⟨_,SqL.of hl⟩,?_⟩
 refine zcR (K:=K) (xs:=as.map V.ref) (λi σ H'=>(∃o,σ=[some (.ref lr),some (.int k),o])∧H'=H∧((as.zip ns).take i).find? (λp=>p.2 == k)=none) ⟨⟨none,rfl⟩,rfl,rfl⟩ (λi σ H' _ h=>by rw[h.2.1];exact SqL.of hl) (λi x σ H' hx h=>?_) (λσ H' h=>?_)
 ·obtain⟨⟨o,rfl⟩,rfl,hn⟩:=h
  rw[List.getElem?_map] at hx
  cases ea:as[i]? with
  | none=>rw[ea] at hx;cases hx
  | some a =>
   rw[ea] at hx
   cases hx
   obtain⟨n,hn'⟩:∃n,ns[i]? = some n:=⟨_,List.getElem?_eq_getElem (by have:=(List.getElem?_eq_some_iff.mp ea).1;have:=hA.1;omega)⟩
   obtain⟨C,dx,fs,hR,hC,hnA,hf⟩:=hA.2 i a n ea hn'
   have tf:=zjq (zix ea hn') hn
   refine⟨_,rfl,_,_,_,_,_,rfl,hR,hC,hnA,hf,?_⟩
   refine⟨_,rfl,⟨rfl,_,rfl,zb9 (λh1=>?_) (λh1=>?_)⟩⟩
   ·refine⟨_,rfl,?_⟩
    refine q _ ?_
    rw[tf.1 (by rw[zgh] at h1;rw[beq_iff_eq] at h1 ⊢;show n=k;omega)]
   ·refine⟨⟨_,rfl⟩,rfl,tf.2 λz=>h1 ?_⟩
    rw[zgh];rw[beq_iff_eq] at z ⊢
    have z:n=k:=z
    omega
 ·obtain⟨⟨o,rfl⟩,rfl,hn⟩:=h
  rw[List.length_map] at hn
  rw[List.take_of_length_le (by rw[List.length_zip];exact Nat.min_le_left _ _)] at hn
  refine q _ ?_
  rw[hn]
theorem zjb {α:Type} (num:α→Nat) (k:Nat):∀{as:List Addr} {rs:List α},as.length=rs.length→(match rs.find? λr=>num r == k with | none=>((as.zip (rs.map num)).find? λp=>p.2 == k)=none | some r=>∃(i:Nat) (a:Addr),as[i]? = some a∧rs[i]? = some r∧((as.zip (rs.map num)).find? λp=>p.2 == k)=some (a,num r))
 | [],[],_=>rfl
 | [],_::_,h=>by simp at h
 | _::_,[],h=>by simp at h
 | a::as,r::rs,h=>by
  have ih:=zjb num k (as:=as) (rs:=rs) (by simpa using h)
  rw[List.map_cons,List.zip_cons_cons]
  by_cases e:num r=k
  ·rw[List.find?_cons_of_pos (by simpa using e),List.find?_cons_of_pos (by simpa using e)]
   exact⟨0,a,rfl,rfl,rfl⟩
  ·rw[List.find?_cons_of_neg (by simpa using e),List.find?_cons_of_neg (by simpa using e)]
   cases ef:rs.find? λr=>num r == k with
   | none=>rw[ef] at ih;exact ih
   | some r' =>
    rw[ef] at ih
    obtain⟨i,a',h1,h2,h3⟩:=ih
    exact⟨i + 1,a',h1,h2,h3⟩
theorem zci {H:Hp} {lr:Addr} {k:Nat} {rs:List Right} {Q:VK} (T:Txt K mg A) (h:RightsAt A H lr rs) (q:∀v,zqx A H v (rs.find? λr=>r.number == k)→Q v H):zk4 A K [.ref lr,.int k] H Q E0:=by
 obtain⟨as,hl,hA⟩:=h
 refine⟨lr,k,rfl,as,rs.map (·.number),hl,⟨by rw[List.length_map];exact hA.1,λi a n h1 h2=>?_⟩,λv hv=>q v ?_⟩
 ·rw[List.getElem?_map] at h2
  cases e:rs[i]? with
  | none=>rw[e] at h2;cases h2
  | some r =>
   rw[e] at h2
   cases h2
   obtain⟨dx,hR⟩:=hA.2 i a r h1 e
   exact⟨_,dx,_,hR,T.clR,T.naR _ (by decide),rfl⟩
 ·have:=zjb (λr:Right=>r.number) k (as:=as) (rs:=rs) hA.1
  cases e:rs.find? λr=>r.number == k with
  | none=>rw[e] at this;rw[this] at hv;exact hv
  | some r =>
   rw[e] at this
   obtain⟨i,a,h1,h2,h3⟩:=this
   rw[h3] at hv
   exact⟨a,hv,hA.2 i a r h1 h2⟩
theorem zo3 {H:Hp} {lr:Addr} {k:Nat} {rs:List Bid} {Q:VK} (T:Txt K mg A) (h:BidsAt A H lr rs) (q:∀v,zn9 A H v (rs.find? λr=>r.number == k)→Q v H):zk4 A K [.ref lr,.int k] H Q E0:=by
 obtain⟨as,hl,hA⟩:=h
 refine⟨lr,k,rfl,as,rs.map (·.number),hl,⟨by rw[List.length_map];exact hA.1,λi a n h1 h2=>?_⟩,λv hv=>q v ?_⟩
 ·rw[List.getElem?_map] at h2
  cases e:rs[i]? with
  | none=>rw[e] at h2;cases h2
  | some r =>
   rw[e] at h2
   cases h2
   obtain⟨dx,hR⟩:=hA.2 i a r h1 e
   exact⟨_,dx,_,hR,T.clB,T.naB _ (by decide),rfl⟩
 ·have:=zjb (λr:Bid=>r.number) k (as:=as) (rs:=rs) hA.1
  cases e:rs.find? λr=>r.number == k with
  | none=>rw[e] at this;rw[this] at hv;exact hv
  | some r =>
   rw[e] at this
   obtain⟨i,a,h1,h2,h3⟩:=this
   rw[h3] at hv
   exact⟨a,hv,hA.2 i a r h1 h2⟩
end
end Z
namespace Z
open PySem PySem.Spec PyProof.Rows L2
open Vbeman (Line Right House Bid)
section
variable {P : Program} {w : World} {K : PySem.W.Frag} {mg : Str → Option Value} {base : Heap} {A : Ad} {f : Addr} {fd : FuncData}
theorem AllAt.snoc {α:Type} {R:Addr→α→Prop} {as:List Addr} {xs:List α} {a:Addr} {x:α} (h:AllAt R as xs) (r:R a x):AllAt R (as++[a]) (xs++[x]):=by
 refine⟨by rw[List.length_append,List.length_append,h.1];rfl,λi b y hb hy=>?_⟩
 by_cases hi:i < as.length
 ·rw[List.getElem?_append_left hi] at hb
  rw[List.getElem?_append_left (by rw[←h.1];exact hi)] at hy
  exact h.2 i b y hb hy
 ·rw[List.getElem?_append_right (by omega)] at hb
  rw[List.getElem?_append_right (by rw[←h.1];omega),←h.1] at hy
  have e:i - as.length=0:=by
   have:=(List.getElem?_eq_some_iff.mp hb).1
   rw[List.length_singleton] at this
   omega
  rw[e] at hb hy
  cases hb;cases hy
  exact r
theorem AllAt.nil {α:Type} {R:Addr→α→Prop}:AllAt R [] ([]:List α):=⟨rfl,λi a x h=>by simp at h⟩
structure Built (A:Ad) (H H':Hp) (D:Addr) (rs:List Right):Prop where
 same:Same H H'
 fresh:H D=none
 ex:RightsAt A H' D rs
theorem Built.start {H:Hp} {D:Addr} (h:H D=none):Built A H (upd H D (.lst [])) D []:=⟨Same.upd h,h,[],zbG,AllAt.nil⟩
theorem Built.app {H H1 H2:Hp} {D a:Addr} {rs:List Right} {r:Right} (b:Built A H H1 D rs) (s:Same H1 H2) (hR:RightAt A H2 a r) (hz:rs.length≤1000) :
  ∃xs,H2 D=some (.lst xs)∧xs.length < sizeLine∧Built A H (upd H2 D (.lst (xs++[V.ref a]))) D (rs++[r]):=by
 obtain⟨as,e,hA⟩:=b.ex
 have e2:=s _ _ e
 refine⟨_,e2,?_,⟨λc o h=>?_,b.fresh,as++[a],?_,?_⟩⟩
 ·rw[List.length_map,hA.1];exact zb0 hz
 ·rw[zbL (zbI h b.fresh)];exact s _ _ (b.same _ _ h)
 ·rw[zbG,List.map_append];rfl
 ·have nD:∀c r,RightAt A H2 c r→RightAt A (L2.upd H2 D (.lst (as.map V.ref++[V.ref a]))) c r:=λc r ⟨dx,h⟩=>⟨dx,by rw[zbL (zeb h e2 (by intro z;cases z))];exact h⟩
  exact (hA.imp λc r h=>nD c r (h.same s)).snoc (nD _ _ hR)
theorem ze0 (l:List Right) (r:Right) (k:Nat) (q:Int):Vbeman.setAmount (l++[r]) k q=Vbeman.setAmount l k q++(if r.number=k then (if 0 < q then [{ r with amount:=q }] else []) else [r]):=by
 unfold Vbeman.setAmount
 by_cases hq:q≤0
 ·rw[if_pos hq,if_pos hq]
  unfold Vbeman.without
  rw[List.filter_append]
  by_cases hk:r.number=k
  ·rw[if_pos hk,if_neg (show ¬0 < q by omega),List.filter_cons_of_neg (by simp [hk])]
   rfl
  ·rw[if_neg hk,List.filter_cons_of_pos (by simp [hk])]
   rfl
 ·rw[if_neg hq,if_neg hq,List.map_append]
  by_cases hk:r.number=k
  ·rw[if_pos hk,if_pos (show 0 < q by omega),List.map_cons,if_pos hk]
   rfl
  ·rw[if_neg hk,List.map_cons,if_neg hk]
   rfl
theorem zcv (l:List Right) (k:Nat) (q:Int):(Vbeman.setAmount l k q).length≤l.length:=by
 unfold Vbeman.setAmount Vbeman.without
 split
 ·exact List.length_filter_le _ _
 ·rw[List.length_map];exact Nat.le_refl _
theorem neI {a b:Nat} (h:(!decide (V.int (a:Int)=V.int (b:Int)))=true):¬a=b:=by
 intro e
 subst e
 rw[decide_eq_true rfl] at h
 cases h
theorem zll {a b:Nat} (h:¬(!decide (V.int (a:Int)=V.int (b:Int)))=true):a=b:=by
 by_cases e:a=b
 ·exact e
 ·exfalso;apply h
  rw[decide_eq_false (λz=>e (by injection z with z;omega))]
  rfl
def zgl (A:Ad):Sp:=λvs H Q _=>∃(lr:Addr) (k:Nat) (q:Int),vs=[.ref lr,.int k,.int q]∧∃rs,rs.length≤1000∧RightsAt A H lr rs∧∀H' p,Same H H'→H p=none→RightsAt A H' p (Vbeman.setAmount rs k q)→Q (.ref p) H'
abbrev zdV:=top 15
abbrev zcx (P:Program) (w:World) (K:PySem.W.Frag) (mg:Str→Option Value) (base:Heap) (A:Ad):Prop:=FnI P w K mg base "with_amount" 3 ["rights","number","amount"] (zgl A)
theorem zhL (F:Fun K "with_amount" "with_amount" zdV f fd) (T:Txt K mg A) (zbu:zeQ P w K mg base A):FnOk P w K mg base CX0 3 f fd ["rights","number","amount"] (zgl A):=by
 have sc:FnScope ["rights","number","amount","changed","right"] ["rights","number","amount"] (zbK zdV):=fsc
 refine F.ok sc (by rintro _ _ _ _ ⟨lr,k,am,rfl,_⟩;rfl) λcdv Ar outer s H vs Q E hr h=>?_
 obtain⟨lr,k,am,rfl,h⟩:=h
 refine⟨_,(zbC (zbP (i:=3) sc.nd rfl (by first | exact Or.inl rfl | exact Or.inr rfl) (zbQ zbD)) (zbC (zdv PassesOwn.never rfl (zcD (pv 0)) (zbW (i:=4) sc.nd (by rfl) (by first | exact Or.inl rfl | exact Or.inr rfl) (by first | exact Or.inl rfl | exact Or.inr rfl)) (zbF (zbU (zbO zeG (zbE (pv 4) rfl) (pv 1) (zbR _)) (zbF (zcf (zeF PySem.F.plainAttrs_list PySem.F.slot_list_append PySem.F.type_list_append zcX (pv 3) (zbB (pv 4) zbD)))) (zbF (zbU (zbO zhe (pv 2) zbN (zbR _)) (zbF (zcf (zeF PySem.F.plainAttrs_list PySem.F.slot_list_append PySem.F.type_list_append zcX (pv 3) (zbB (zcI zbu (hr.mono (by decide)) (by rfl) (zbB (pv 1) (zbB (zbE (pv 4) rfl) (zbB (zbE (pv 4) rfl) (zbB (zbE (pv 4) rfl) (zbB (zbE (pv 4) rfl) (zbB (pv 2) zbD))))))) zbD)))) zbM))))) (zbF (zbJ (pv 3))))),?_⟩
 obtain⟨rs,hz,⟨as,hl,hA⟩,q⟩:=h
 refine⟨(by show 0≤sizeLine;decide),λD hD=>?_⟩
 refine⟨_,rfl,?_⟩
 refine⟨lr,rfl,⟨_,SqL.of (Same.upd hD _ _ hl)⟩,?_⟩
 refine zcR (K:=K) (xs:=as.map V.ref) (λi σ H'=>(∃o,σ=[some (.ref lr),some (.int k),some (.int am),some (.ref D),o])∧Built A H H' D (Vbeman.setAmount (rs.take i) k am)) ⟨⟨none,rfl⟩,?_⟩ (λi σ H' _ h=>SqL.of (h.2.same _ _ hl)) (λi x σ H' hx h=>?_) (λσ H' h=>?_)
 ·have e:Vbeman.setAmount (rs.take 0) k am=[]:=by
   unfold Vbeman.setAmount;split <;> rfl
  rw[e]
  exact Built.start hD
 ·obtain⟨⟨o,rfl⟩,b⟩:=h
  obtain⟨a,r,rfl,hr',hR0⟩:=hA.get hx
  have hR1:=hR0.same b.same
  obtain⟨dx,hR⟩:=hR1
  have hz':(Vbeman.setAmount (rs.take i) k am).length≤1000:=Nat.le_trans (zcv _ _ _) (by rw[List.length_take];omega)
  have es:=ze0 (rs.take i) r k am
  rw[←L2.zb4 hr'] at es
  obtain⟨asD,hD',hAD⟩:=b.ex
  refine⟨_,rfl,gR T hR rfl ⟨_,rfl,⟨rfl,_,rfl,zb9 (λh1=>?_) (λh1=>?_)⟩⟩⟩
  ·have h1:=neI h1
   rw[if_neg h1] at es
   obtain⟨xs,e1,e2,b2⟩:=b.app (Same.refl _) ⟨dx,hR⟩ hz'
   rw[←es] at b2
   exact⟨_,rfl,.inl ⟨rfl,_,SqL.of hD'⟩,_,rfl,D,xs,_,rfl,rfl,e1,e2,⟨_,rfl⟩,b2⟩
  ·have h1:=zll h1
   subst h1
   rw[if_pos rfl] at es
   refine⟨_,rfl,⟨_,_,rfl,rfl,⟨_,rfl,zb9 (λh2=>?_) (λh2=>?_)⟩⟩⟩
   ·rw[if_pos (of_decide_eq_true h2)] at es
    refine⟨_,rfl,.inl ⟨rfl,_,SqL.of hD'⟩,?_⟩
    refine⟨_,rfl,⟨_,rfl,gR T hR rfl ⟨_,rfl,gR T hR rfl ⟨_,rfl,gR T hR rfl ⟨_,rfl,gR T hR rfl ⟨_,rfl,zdC (r:={r with amount:=am}) λH2 x nx sH2 aH2=>?_⟩⟩⟩⟩⟩⟩
    obtain⟨xs,e1,e2,b2⟩:=b.app sH2 aH2 hz'
    rw[←es] at b2
    exact⟨D,xs,_,rfl,rfl,e1,e2,⟨_,rfl⟩,b2⟩
   ·rw[if_neg (λz=>h2 (decide_eq_true z)),List.append_nil] at es
    rw[←es] at b
    exact⟨⟨_,rfl⟩,b⟩
 ·obtain⟨⟨o,rfl⟩,b⟩:=h
  rw[List.length_map,hA.1,List.take_length] at b
  refine⟨_,rfl,?_⟩
  exact q _ D b.same hD b.ex
def zcP (l:List Right) (k o:Nat):List Right:=l.map λx=>if x.number=k then { x with owner:=o } else x
theorem ziB (l:List Right) (r:Right) (k o:Nat):zcP (l++[r]) k o=zcP l k o++[if r.number=k then { r with owner:=o } else r]:=by
 unfold zcP
 rw[List.map_append]
 rfl
def zgU (A:Ad):Sp:=λvs H Q _=>∃(lr:Addr) (k o:Nat),vs=[.ref lr,.int k,.int o]∧∃rs,rs.length≤1000∧RightsAt A H lr rs∧∀H' p,Same H H'→H p=none→RightsAt A H' p (zcP rs k o)→Q (.ref p) H'
abbrev zer:=top 17
abbrev zgv (P:Program) (w:World) (K:PySem.W.Frag) (mg:Str→Option Value) (base:Heap) (A:Ad):Prop:=FnI P w K mg base "with_owner" 3 ["rights","number","owner"] (zgU A)
theorem ziR (F:Fun K "with_owner" "with_owner" zer f fd) (T:Txt K mg A) (zbu:zeQ P w K mg base A):FnOk P w K mg base CX0 3 f fd ["rights","number","owner"] (zgU A):=by
 have sc:FnScope ["rights","number","owner","changed","right"] ["rights","number","owner"] (zbK zer):=fsc
 refine F.ok sc (by rintro _ _ _ _ ⟨lr,k,ow,rfl,_⟩;rfl) λcdv Ar outer s H vs Q E hr h=>?_
 obtain⟨lr,k,ow,rfl,h⟩:=h
 refine⟨_,(zbC (zbP (i:=3) sc.nd rfl (by first | exact Or.inl rfl | exact Or.inr rfl) (zbQ zbD)) (zbC (zdv PassesOwn.never rfl (zcD (pv 0)) (zbW (i:=4) sc.nd (by rfl) (by first | exact Or.inl rfl | exact Or.inr rfl) (by first | exact Or.inl rfl | exact Or.inr rfl)) (zbF (zbU (zbO zeG (zbE (pv 4) rfl) (pv 1) (zbR _)) (zbF (zcf (zeF PySem.F.plainAttrs_list PySem.F.slot_list_append PySem.F.type_list_append zcX (pv 3) (zbB (pv 4) zbD)))) (zbF (zcf (zeF PySem.F.plainAttrs_list PySem.F.slot_list_append PySem.F.type_list_append zcX (pv 3) (zbB (zcI zbu (hr.mono (by decide)) (by rfl) (zbB (pv 1) (zbB (pv 2) (zbB (zbE (pv 4) rfl) (zbB (zbE (pv 4) rfl) (zbB (zbE (pv 4) rfl) (zbB (zbE (pv 4) rfl) zbD))))))) zbD))))))) (zbF (zbJ (pv 3))))),?_⟩
 obtain⟨rs,hz,⟨as,hl,hA⟩,q⟩:=h
 refine⟨(by show 0≤sizeLine;decide),λD hD=>?_⟩
 refine⟨_,rfl,?_⟩
 refine⟨lr,rfl,⟨_,SqL.of (Same.upd hD _ _ hl)⟩,?_⟩
 refine zcR (K:=K) (xs:=as.map V.ref) (λi σ H'=>(∃o,σ=[some (.ref lr),some (.int k),some (.int ow),some (.ref D),o])∧Built A H H' D (zcP (rs.take i) k ow)) ⟨⟨none,rfl⟩,Built.start hD⟩ (λi σ H' _ h=>SqL.of (h.2.same _ _ hl)) (λi x σ H' hx h=>?_) (λσ H' h=>?_)
 ·obtain⟨⟨o,rfl⟩,b⟩:=h
  obtain⟨a,r,rfl,hr',hR0⟩:=hA.get hx
  have hR1:=hR0.same b.same
  obtain⟨dx,hR⟩:=hR1
  have hz':(zcP (rs.take i) k ow).length≤1000:=by unfold zcP;rw[List.length_map,List.length_take];omega
  have es:=ziB (rs.take i) r k ow
  rw[←L2.zb4 hr'] at es
  obtain⟨asD,hD',hAD⟩:=b.ex
  refine⟨_,rfl,gR T hR rfl ⟨_,rfl,⟨rfl,_,rfl,zb9 (λh1=>?_) (λh1=>?_)⟩⟩⟩
  ·have h1:=neI h1
   rw[if_neg h1] at es
   obtain⟨xs,e1,e2,b2⟩:=b.app (Same.refl _) ⟨dx,hR⟩ hz'
   rw[←es] at b2
   exact⟨_,rfl,.inl ⟨rfl,_,SqL.of hD'⟩,_,rfl,D,xs,_,rfl,rfl,e1,e2,⟨_,rfl⟩,b2⟩
  ·have h1:=zll h1
   subst h1
   rw[if_pos rfl] at es
   refine⟨_,rfl,.inl ⟨rfl,_,SqL.of hD'⟩,?_⟩
   refine⟨_,rfl,⟨_,rfl,⟨_,rfl,gR T hR rfl ⟨_,rfl,gR T hR rfl ⟨_,rfl,gR T hR rfl ⟨_,rfl,gR T hR rfl (zdC (r:={r with owner:=ow}) λH2 x nx sH2 aH2=>?_)⟩⟩⟩⟩⟩⟩
   obtain⟨xs,e1,e2,b2⟩:=b.app sH2 aH2 hz'
   rw[←es] at b2
   exact⟨D,xs,_,rfl,rfl,e1,e2,⟨_,rfl⟩,b2⟩
 ·obtain⟨⟨o,rfl⟩,b⟩:=h
  rw[List.length_map,hA.1,List.take_length] at b
  refine⟨_,rfl,?_⟩
  exact q _ D b.same hD b.ex
theorem znx {n i:Nat} (h:i < n):ixN n (i:Int)=some i:=by
 unfold ixN
 rw[if_pos (by omega),if_pos (by omega)];simp
theorem AllAt.at {α:Type} {R:Addr→α→Prop} {as:List Addr} {xs:List α} (h:AllAt R as xs) {i:Nat} {x:α} (e:xs[i]? = some x):∃a,as[i]? = some a∧R a x:=by
 have hi:i < as.length:=by rw[h.1];exact (List.getElem?_eq_some_iff.mp e).1
 exact⟨as[i],List.getElem?_eq_getElem hi,h.2 i _ x (List.getElem?_eq_getElem hi) e⟩
theorem AllAt.set {α:Type} {R:Addr→α→Prop} {as:List Addr} {xs:List α} (h:AllAt R as xs) {i:Nat} {a:Addr} {x:α} (r:R a x):AllAt R (as.set i a) (xs.set i x):=by
 refine⟨by rw[List.length_set,List.length_set,h.1],λj b y hb hy=>?_⟩
 by_cases hj:i=j
 ·subst hj
  have hi:i < as.length:=by have:=(List.getElem?_eq_some_iff.mp hb).1;rwa [List.length_set] at this
  rw[List.getElem?_set_self hi] at hb
  rw[List.getElem?_set_self (by rw[←h.1];exact hi)] at hy
  cases hb;cases hy
  exact r
 ·rw[List.getElem?_set_ne hj] at hb hy
  exact h.2 j b y hb hy
theorem zf8 {α:Type} {l:List α} {i:Nat} {x:α} (f:α→α) (h:l[i]? = some x):l.modify i f=l.set i (f x):=by
 apply List.ext_getElem?
 intro j
 rw[List.getElem?_modify,List.getElem?_set]
 by_cases e:i=j
 ·subst e
  rw[if_pos rfl,h,if_pos (List.getElem?_eq_some_iff.mp h).1]
  show some (if i=i then f x else x)=_
  rw[if_pos rfl]
 ·rw[if_neg e]
  cases l[j]? with
  | none=>rfl
  | some y=>show some (if i=j then f y else y)=_;rw[if_neg e]
def zgT (A:Ad):Sp:=λvs H Q _=>∃(ll:Addr) (i:Nat) (f g:Int),vs=[.ref ll,.int i,.int f,.int g]∧∃ls,i < ls.length∧ls.length≤1000∧LinesAt A H ll ls∧∀H' p,Same H H'→H p=none→LinesAt A H' p (ls.modify i λx=>{ x with forth:=f,back:=g })→Q (.ref p) H'
abbrev zeq:=top 18
abbrev zeR (P:Program) (w:World) (K:PySem.W.Frag) (mg:Str→Option Value) (base:Heap) (A:Ad):Prop:=FnI P w K mg base "with_rooms" 3 ["lines","number","forth","back"] (zgT A)
theorem ziQ (F:Fun K "with_rooms" "with_rooms" zeq f fd) (T:Txt K mg A) (zbt:zn3 P w K mg base A):FnOk P w K mg base CX0 3 f fd ["lines","number","forth","back"] (zgT A):=by
 have sc:FnScope ["lines","number","forth","back","changed","line"] ["lines","number","forth","back"] (zbK zeq):=fsc
 refine F.ok sc (by rintro _ _ _ _ ⟨ll,i,fo,ba,rfl,_⟩;rfl) λcdv Ar outer s H vs Q E hr h=>?_
 obtain⟨ll,i,fo,ba,rfl,h⟩:=h
 refine⟨_,(zbC (zbP (i:=4) sc.nd rfl (by first | exact Or.inl rfl | exact Or.inr rfl) (zm4 zj9 (by rfl) T.n_list (by decide +kernel) (zbB (pv 0) zbD))) (zbC (zbP (i:=5) sc.nd rfl (by first | exact Or.inl rfl | exact Or.inr rfl) (zfp zdL (pv 0) (pv 1) (λ_ _=>rfl))) (zbC (zpr (zcI zbt (hr.mono (by decide)) (by rfl) (zbB (zbE (pv 5) rfl) (zbB (zbE (pv 5) rfl) (zbB (pv 2) (zbB (pv 3) zbD))))) (zpv (pv 4) (pv 1) zk8)) (zbF (zbJ (pv 4)))))),?_⟩
 obtain⟨ls,hi,hz,⟨as,hl,hA⟩,q⟩:=h
 have hx:ls[i]? = some ls[i]:=List.getElem?_eq_getElem hi
 obtain⟨a,ha,dx,hL0⟩:=hA.at hx
 refine⟨_,rfl,?_⟩
 refine⟨ll,_,rfl,.inl (SqL.of hl),λD hD=>?_⟩
 have s1:Same H (upd H D (.lst (as.map V.ref))):=Same.upd hD
 have hD1:(upd H D (.lst (as.map V.ref))) D=some (.lst (as.map V.ref)):=zbG
 generalize (upd H D (.lst (as.map V.ref)))=H1 at s1 hD1 ⊢
 have hL:=s1 _ _ hL0
 refine⟨_,rfl,_,rfl,ll,_,_,V.ref a,rfl,rfl,SqL.of (s1 _ _ hl),zdi (by rw[List.getElem?_map,ha];rfl),?_⟩
 refine⟨_,rfl,gL T hL rfl ⟨_,rfl,gL T hL rfl ⟨_,rfl,⟨_,rfl,znn (r:={ls[i] with forth:=fo,back:=ba}) λH2 x nx sH2 aH2=>?_⟩⟩⟩⟩
 refine⟨_,rfl,_,rfl,D,_,_,i,rfl,rfl,sH2 _ _ hD1,znx (by rw[List.length_map,hA.1];exact hi),?_⟩
 refine⟨_,rfl,?_⟩
 refine q _ D (λb o e=>by rw[zbL (zbI e hD)];exact sH2 _ _ (s1 _ _ e)) hD ⟨as.set i x,by rw[zbG,List.map_set],?_⟩
 rw[zf8 _ hx]
 have e2:=sH2 _ _ hD1
 exact (AllAt.set (hA.imp λc r h=>(h.same s1).same sH2) aH2).imp λc r ⟨dc,h⟩=>⟨dc,by rw[zbL (zeb h e2 (by intro z;cases z))];exact h⟩
end
end Z
namespace Z
open PySem PySem.Spec PyProof.Rows L2
open Vbeman (Line Right House Bid)
theorem zgS:∀(a b:List Int),Vbeman.total (a++b)=Vbeman.total a + Vbeman.total b
 | [],b=>by show Vbeman.total b=0 + Vbeman.total b;omega
 | x::a,b=>by
  have ih:=zgS a b
  show x + Vbeman.total (a++b)=x + Vbeman.total a + Vbeman.total b
  omega
theorem zjA (X:Nat) (a b:List Right) (r:Right):Vbeman.promised X (a++r::b)=Vbeman.promised X (a++b) + Vbeman.promise X r:=by
 unfold Vbeman.promised
 rw[List.map_append,List.map_append,zgS,zgS,List.map_cons]
 show _ + (Vbeman.promise X r + Vbeman.total (b.map (Vbeman.promise X)))=_
 omega
theorem zjx (X:Nat) (ls:List Line) (a b:List Right) (r:Right):Vbeman.slack X ls (a++r::b)=Vbeman.slack X ls (a++b) - Vbeman.promise X r:=by
 unfold Vbeman.slack
 rw[zjA]
 omega
theorem zo7 (n:Nat) (ls:List Line) (a b:List Right) (r:Right):zrm (zcJ n ls (a++r::b)) r=zcJ n ls (a++b):=by
 unfold zrm
 rw[zco]
 show _=(Vbeman.groups n).map _
 refine List.map_congr_left λX hX=>?_
 rw[ze8 (List.mem_range.mp hX),zjx]
 omega
theorem zoi (n:Nat) (ls:List Line) (a b:List Right) (r:Right):zqO (zcJ n ls (a++b)) r=zcJ n ls (a++r::b):=by
 unfold zqO
 rw[zco]
 show _=(Vbeman.groups n).map _
 refine List.map_congr_left λX hX=>?_
 rw[ze8 (List.mem_range.mp hX),zjx]
def ze1 (l:List Right):List Nat:=l.map (·.number)
theorem zgn {l:List Right} {k:Nat} {q:Int} (h:k ∉ ze1 l):Vbeman.setAmount l k q=l:=by
 have hn:∀r∈l,r.number≠k:=λr hr e=>h (List.mem_map.mpr ⟨r,hr,e⟩)
 unfold Vbeman.setAmount Vbeman.without
 split
 ·rw[List.filter_eq_self]
  intro r hr
  simpa using hn r hr
 ·conv=>rhs;rw[←List.map_id l]
  refine List.map_congr_left λr hr=>?_
  rw[if_neg (hn r hr)]
  rfl
theorem zfB (a b:List Right) (k:Nat) (q:Int):Vbeman.setAmount (a++b) k q=Vbeman.setAmount a k q++Vbeman.setAmount b k q:=by
 unfold Vbeman.setAmount Vbeman.without
 split
 ·exact List.filter_append ..
 ·exact List.map_append ..
theorem ziD (r:Right) (q:Int):Vbeman.setAmount [r] r.number q=if 0 < q then [{ r with amount:=q }] else []:=by
 have:=ze0 [] r r.number q
 rw[if_pos rfl] at this
 exact this.trans (by
  have e:Vbeman.setAmount [] r.number q=[]:=by unfold Vbeman.setAmount;split <;> rfl
  rw[e];rfl)
theorem ziE {a b:List Right} {r:Right} (h:(ze1 (a++r::b)).Nodup) (q:Int):Vbeman.setAmount (a++r::b) r.number q=a++((if 0 < q then [{ r with amount:=q }] else [])++b):=by
 have e:a++r::b=a++([r]++b):=rfl
 unfold ze1 at h
 rw[List.map_append,List.map_cons] at h
 obtain⟨h1,h2,h3⟩:=List.nodup_append.mp h
 obtain⟨h4,h5⟩:=List.nodup_cons.mp h2
 rw[e,zfB,zfB,ziD,zgn (λm=>h3 _ m _ (List.mem_cons_self ..) rfl),zgn h4]
theorem zo2 {a b:List Right} {r:Right} (h:(ze1 (a++r::b)).Nodup):(a++r::b).find? (λx=>x.number == r.number)=some r:=by
 unfold ze1 at h
 rw[List.map_append,List.map_cons] at h
 obtain⟨h1,h2,h3⟩:=List.nodup_append.mp h
 rw[List.find?_append,List.find?_eq_none.mpr]
 ·rw[Option.none_or,List.find?_cons_of_pos (by simp)]
 ·intro x hx
  have:=h3 _ (List.mem_map.mpr ⟨x,hx,rfl⟩) r.number (List.mem_cons_self ..)
  simpa using this
def zrt (n:Nat) (r:Right):Prop:=r.source < n∧r.sink < n∧r.source≠r.sink∧1≤r.amount
theorem zmx {n:Nat} {ls:List Line} {older suf:List Right} {r:Right} :
  Vbeman.trim n ls (older++[r]).reverse suf=if r.option=false∨Vbeman.safe n ls (older++r::suf)=true then Vbeman.trim n ls older.reverse (r::suf)
   else if Vbeman.mostFor n ls (older++suf) r.source r.sink≤0 then Vbeman.trim n ls older.reverse suf else Vbeman.trim n ls older.reverse ({ r with amount:=min r.amount (Vbeman.mostFor n ls (older++suf) r.source r.sink) }::suf):=by
 rw[List.reverse_append]
 show Vbeman.trim n ls (r::older.reverse) suf=_
 rw[Vbeman.trim,List.reverse_reverse]
theorem zp9 {a q:Int} (ha:1≤a):((if (if q > 0 then q else 0) < a then (if q > 0 then q else 0) else a)=if q≤0 then 0 else min a q):=by
 by_cases h:q≤0
 ·have e:(if q > 0 then q else 0)=0:=if_neg (by omega)
  rw[if_pos h,e,if_pos (by omega)]
 ·have e:(if q > 0 then q else 0)=q:=if_pos (by omega)
  rw[if_neg h,e,Int.min_def]
  split <;> split <;> omega
section
variable {P : Program} {w : World} {K : PySem.W.Frag} {mg : Str → Option Value} {base : Heap} {A : Ad} {f : Addr} {fd : FuncData}
structure CutAt (A:Ad) (n:Nat) (ls:List Line) (rs:List Right) (H H':Hp) (i:Nat) (suf:List Right) (ps pk lr:Addr):Prop where
 same:Same H H'
 fr:pk=lr∨H pk=none
 sl:H' ps=some (.lst ((zcJ n ls (rs.take (rs.length - i)++suf)).map V.int))
 kp:RightsAt A H' pk (rs.take (rs.length - i)++suf)
 sub:(ze1 suf).Sublist (ze1 (rs.drop (rs.length - i)))
 len:suf.length≤i
 ok:∀r∈suf,zrt n r
 tr:Vbeman.trim n ls (rs.take (rs.length - i)).reverse suf=Vbeman.trim n ls rs.reverse []
def zqT (A:Ad):Sp:=λvs H Q _=>∃(n:Nat) (ll lr:Addr),vs=[.int n,.ref ll,.ref lr]∧∃ls rs,n≤6∧NetAt A H ll lr ls rs∧(∀r∈rs,zrt n r)∧(ze1 rs).Nodup∧∀H' p,Same H H'→(p=lr∨H p=none)→RightsAt A H' p (Vbeman.trim n ls rs.reverse [])→Q (.ref p) H'
abbrev zd4:=top 66
abbrev zfV (P:Program) (w:World) (K:PySem.W.Frag) (mg:Str→Option Value) (base:Heap) (A:Ad):Prop:=FnI P w K mg base "cut_options" 6 ["zones","lines","rights"] (zqT A)
theorem zhU (F:Fun K "cut_options" "cut_options" zd4 f fd) (T:Txt K mg A) (za6:zct P w K mg base A) (za8:zei P w K mg base A) (zbl:zcx P w K mg base A) (za7:zfR P w K mg base A) (zaN:zcA P w K mg base A) (zax:zb1 P w K mg base A):FnOk P w K mg base CX0 6 f fd ["zones","lines","rights"] (zqT A):=by
 have sc:FnScope ["zones","lines","rights","slacks","kept","right","left"] ["zones","lines","rights"] (zbK zd4):=fsc
 refine F.ok sc (by rintro _ _ _ _ ⟨n,ll,lr,rfl,_⟩;rfl) λcdv Ar outer s H vs Q E hr h=>?_
 obtain⟨n,ll,lr,rfl,h⟩:=h
 refine⟨_,(zbC (zbP (i:=3) sc.nd rfl (by first | exact Or.inl rfl | exact Or.inr rfl) (zbH za6 (hr.mono (by decide)) (by rfl) (zbB (pv 0) (zbB (pv 1) (zbB (pv 2) zbD))))) (zbC (zbP (i:=4) sc.nd rfl (by first | exact Or.inl rfl | exact Or.inr rfl) (pv 2)) (zbC (zdv PassesOwn.never rfl (zky (by rfl) T.n_reversed (zbB (pv 2) zbD)) (zbW (i:=5) sc.nd (by rfl) (by first | exact Or.inl rfl | exact Or.inr rfl) (by first | exact Or.inl rfl | exact Or.inr rfl)) (zbF (zbU (PW.pt (zif (zbO zeY (zbT (zlx rfl) (by rfl) T.n_min (by decide +kernel) (zbB (pv 3) zbD)) zbN (zbR _)) (zf4 (zbO zeG (zbE (pv 5) rfl) (zb6 T.i_OBLIGATION (by rfl)) (zbR _))))) (zbC (zbP (i:=3) sc.nd rfl (by first | exact Or.inl rfl | exact Or.inr rfl) (zbH za8 (hr.mono (by decide)) (by rfl) (zbB (pv 3) (zbB (pv 5) zbD)))) (zbC (zbP (i:=6) sc.nd rfl (by first | exact Or.inl rfl | exact Or.inr rfl) (zbT (zhx rfl) (by rfl) T.n_min (by decide +kernel) (zbB (zbE (pv 5) rfl) (zbB (zbT (zdQ rfl) (by rfl) T.n_max (by decide +kernel) (zbB zbN (zbB (zbH zaN (hr.mono (by decide)) (by rfl) (zbB (pv 3) (zbB (zbE (pv 5) rfl) (zbB (zbE (pv 5) rfl) zbD)))) zbD))) zbD)))) (zbC (zbP (i:=4) sc.nd rfl (by first | exact Or.inl rfl | exact Or.inr rfl) (zbH zbl (hr.mono (by decide)) (by rfl) (zbB (pv 4) (zbB (zbE (pv 5) rfl) (zbB (pv 6) zbD))))) (zbF (zbU (zbO zhe (pv 6) zbN (zbR _)) (zbF (zbP (i:=3) sc.nd rfl (by first | exact Or.inl rfl | exact Or.inr rfl) (zbH za7 (hr.mono (by decide)) (by rfl) (zbB (pv 3) (zbB (zbH zax (hr.mono (by decide)) (by rfl) (zbB (pv 4) (zbB (zbE (pv 5) rfl) zbD))) zbD))))) zbM))))) zbM))) (zbF (zbJ (pv 4)))))),?_⟩
 obtain⟨ls,rs,hn,N,hO,hnd,q⟩:=h
 refine⟨_,rfl,⟨_,rfl,⟨_,rfl,?_⟩⟩⟩
 refine⟨n,ll,lr,rfl,ls,rs,hn,N,λH1 ps s1 hps h1=>?_⟩
 refine⟨_,rfl,⟨_,rfl,?_⟩⟩
 have N1:=N.same s1
 obtain⟨as,hl,hA⟩:=N1.ra
 refine⟨lr,_,rfl,SqL.of hl,?_⟩
 have eN:(as.map V.ref).length=rs.length:=by rw[List.length_map,hA.1]
 refine zqe (K:=K) (a:=lr) (xs:=as.map V.ref) (λi σ H'=>∃suf ps pk o5 o6,σ=[some (.int n),some (.ref ll),some (.ref lr),some (.ref ps),some (.ref pk),o5,o6]∧CutAt A n ls rs H1 H' i suf ps pk lr) ?_ (λi σ H' _ h=>?_) (λi x σ H' hi hx h=>?_) (λσ H' h=>?_)
 ·refine⟨[],ps,lr,none,none,rfl,Same.refl _,.inl rfl,?_,?_,List.nil_sublist _,Nat.le_refl _,λr h=>(List.not_mem_nil h).elim,?_⟩
  ·rw[Nat.sub_zero,List.take_length,List.append_nil];exact h1
  ·rw[Nat.sub_zero,List.take_length,List.append_nil];exact N1.ra
  ·rw[Nat.sub_zero,List.take_length]
 ·obtain⟨suf,ps,pk,o5,o6,rfl,c⟩:=h
  exact SqL.of (c.same _ _ hl)
 ·obtain⟨suf,ps,pk,o5,o6,rfl,c⟩:=h
  rw[eN] at hi hx
  obtain⟨a,r,rfl,hr',hR0⟩:=hA.get hx
  obtain⟨dx,hR⟩:=hR0.same c.same
  have eT:rs.take (rs.length - i)=rs.take (rs.length - (i + 1))++[r]:=by
   have e1:rs.length - i=rs.length - 1 - i + 1:=by omega
   have e2:rs.length - (i + 1)=rs.length - 1 - i:=by omega
   rw[e1,e2]
   exact L2.zb4 hr'
  have eD:rs.drop (rs.length - (i + 1))=r::rs.drop (rs.length - i):=by
   have e1:rs.length - i=rs.length - 1 - i + 1:=by omega
   have e2:rs.length - (i + 1)=rs.length - 1 - i:=by omega
   rw[e1,e2]
   have:=List.getElem_cons_drop (List.getElem?_eq_some_iff.mp hr').1
   rw[(List.getElem?_eq_some_iff.mp hr').2] at this
   exact this.symm
  have hRin:=List.mem_of_getElem? hr'
  have hOr:=hO r hRin
  have hOK:OkR r:=⟨Nat.lt_of_lt_of_le hOr.1 hn,Nat.lt_of_lt_of_le hOr.2.1 hn⟩
  generalize hold:rs.take (rs.length - (i + 1))=older at *
  have cs:=c.sl
  have ck:=c.kp
  have ct:=c.tr
  rw[eT,List.append_assoc,List.singleton_append] at cs ck
  rw[eT,zmx] at ct
  have hnd0:(ze1 (older++r::suf)).Nodup:=by
   have e:rs=older++r::rs.drop (rs.length - i):=by rw[←hold,←eD,List.take_append_drop]
   rw[e] at hnd
   unfold ze1 at hnd ⊢
   rw[List.map_append,List.map_cons] at hnd ⊢
   exact hnd.sublist (List.Sublist.append (List.Sublist.refl _) (List.Sublist.cons₂ _ c.sub))
  have hp64:(2 ^ n:Nat)≤1000:=Nat.le_trans (Nat.pow_le_pow_right (by decide) hn) (by decide:2 ^ 6≤1000)
  have hlen:(older++r::suf).length≤1000:=by
   have h1:=c.len
   have h2:=N1.rn
   have h3:older.length≤rs.length - (i + 1):=by rw[←hold,List.length_take];exact Nat.min_le_left _ _
   rw[List.length_append,List.length_cons]
   omega
  have keepIt:(r.option=false∨Vbeman.safe n ls (older++r::suf)=true)→CutAt A n ls rs H1 H' (i + 1) (r::suf) ps pk lr:=λhh=>by
   rw[if_pos hh] at ct
   refine⟨c.same,c.fr,by rw[hold];exact cs,by rw[hold];exact ck,?_,by rw[List.length_cons];have:=c.len;omega,λx hx=>?_,by rw[hold];exact ct⟩
   ·rw[eD];exact List.Sublist.cons₂ _ c.sub
   ·rcases List.mem_cons.mp hx with rfl | hx
    ·exact hOr
    ·exact c.ok x hx
  refine⟨_,rfl,ps,_,rfl,SqL.of cs,by rw[zco];exact Nat.two_pow_pos n,λm h3 h4=>⟨_,_,rfl,rfl,_,rfl,?_⟩⟩
  have hms:=zlm h3 h4
  refine zb9 (λh5=>?_) (λh5=>?_)
  ·refine⟨_,rfl,gR T hR rfl ⟨rfl,_,rfl,zb9 (λh6=>?_) (λh6=>?_)⟩⟩
   ·have ho:r.option=true:=by
     cases ho:r.option with
     | true=>rfl
     | false=>exact absurd (by rw[ho];rfl) (Bool.eq_false_iff.mp (Bool.not_eq_true' _ |>.mp h6))
    have hns:¬(r.option=false∨Vbeman.safe n ls (older++r::suf)=true):=by
     rintro (z | z)
     ·rw[ho] at z;cases z
     ·rw[←hms] at z
      have:=of_decide_eq_true z
      have:=of_decide_eq_true h5
      omega
    rw[if_neg hns] at ct
    refine⟨_,rfl,⟨_,rfl,?_⟩⟩
    refine⟨ps,a,rfl,_,r,by rw[zco];exact hp64,cs,⟨dx,hR⟩,hOK,λH2 p2 s2 hp2 h2=>?_⟩
    rw[zo7] at h2
    have hR2:=s2 _ _ hR
    refine⟨_,rfl,gR T hR2 rfl ⟨_,rfl,⟨_,rfl,gR T hR2 rfl ⟨_,rfl,gR T hR2 rfl ?_⟩⟩⟩⟩
    refine⟨p2,r.source,r.sink,rfl,n,_,zco _ _ _,hn,hOr.1,hOr.2.1,hOr.2.2.1,h2,λH3 s3=>?_⟩
    rw[zfH]
    have hR3:=s3 _ _ hR2
    refine⟨_,_,rfl,_,_,rfl,?_⟩
    have hle:=zp9 (q:=Vbeman.mostFor n ls (older++suf) r.source r.sink) hOr.2.2.2
    generalize hq:Vbeman.mostFor n ls (older++suf) r.source r.sink=mq at *
    rw[hle]
    refine⟨_,rfl,⟨_,rfl,gR T hR3 rfl ⟨_,rfl,?_⟩⟩⟩
    have s13:Same H' H3:=s2.trans s3
    refine⟨pk,r.number,_,rfl,_,hlen,ck.same s13,λH4 p4 s4 hp4 h4=>?_⟩
    rw[ziE hnd0] at h4
    have hR4:=s4 _ _ hR3
    refine⟨_,rfl,⟨_,_,rfl,rfl,⟨_,rfl,?_⟩⟩⟩
    by_cases hm:mq≤0
    ·rw[if_pos hm] at ct h4 ⊢
     rw[if_neg (by decide)] at h4
     rw[if_neg (by decide)]
     refine⟨suf,p2,p4,_,_,rfl,c.same.trans (s13.trans s4),.inr ((c.same.trans s13).free hp4),by rw[hold];exact s4 _ _ (s3 _ _ h2),by rw[hold];exact h4,?_,by have:=c.len;omega,c.ok,by rw[hold];exact ct⟩
     rw[eD];exact List.Sublist.cons _ c.sub
    ·rw[if_neg hm] at ct h4 ⊢
     have hpos:0 < min r.amount mq:=by have:=hOr.2.2.2;omega
     rw[if_pos hpos] at h4
     rw[if_pos (decide_eq_true hpos)]
     have hnd1:(ze1 (older++{ r with amount:=min r.amount mq }::suf)).Nodup:=by
      unfold ze1 at hnd0 ⊢
      rw[List.map_append,List.map_cons] at hnd0 ⊢
      exact hnd0
     refine⟨_,rfl,⟨_,rfl,⟨_,rfl,gR T hR4 rfl ?_⟩⟩⟩
     refine zci T h4 λv hv=>?_
     have ef:=zo2 hnd1
     rw[show ([{ r with amount:=min r.amount mq }]++suf)={ r with amount:=min r.amount mq }::suf from rfl] at hv h4
     rw[show (λ(x:Right)=>x.number == r.number)=(λ(x:Right)=>x.number == ({ r with amount:=min r.amount mq }:Right).number) from rfl,ef] at hv
     obtain⟨a',rfl,hR'⟩:=hv
     refine⟨p2,a',rfl,_,_,by rw[zco];exact hp64,s4 _ _ (s3 _ _ h2),hR',hOK,λH5 p5 s5 hp5 h5=>?_⟩
     rw[zoi] at h5
     refine⟨_,p5,p4,_,_,rfl,c.same.trans ((s13.trans s4).trans s5),.inr ((c.same.trans s13).free hp4),by rw[hold];exact h5,by rw[hold];exact h4.same s5,?_,by rw[List.length_cons];have:=c.len;omega,λx hx=>?_,by rw[hold];exact ct⟩
     ·rw[eD];exact List.Sublist.cons₂ _ c.sub
     ·rcases List.mem_cons.mp hx with rfl | hx
      ·exact⟨hOr.1,hOr.2.1,hOr.2.2.1,by show 1≤min r.amount mq;omega⟩
      ·exact c.ok x hx
   ·have ho:r.option=false:=by
     cases ho:r.option with
     | false=>rfl
     | true=>exact absurd (by rw[ho];rfl) h6
    exact⟨_,ps,pk,_,_,rfl,keepIt (.inl ho)⟩
  ·have hsf:Vbeman.safe n ls (older++r::suf)=true:=by
    rw[←hms]
    exact decide_eq_true (Int.not_lt.mp λz=>h5 (decide_eq_true z))
   exact⟨_,ps,pk,_,_,rfl,keepIt (.inr hsf)⟩
 ·obtain⟨suf,ps,pk,o5,o6,rfl,c⟩:=h
  refine⟨_,rfl,?_⟩
  have ct:=c.tr
  have ck:=c.kp
  rw[eN,Nat.sub_self] at ct ck
  refine q _ pk (s1.trans c.same) (c.fr.imp id λz=>s1.free z) ?_
  rw[←ct]
  exact ck
end
end Z
namespace Z
open PySem PySem.Spec PyProof.Rows L2
open Vbeman (Line Right House Bid)
section
variable {P : Program} {w : World} {K : PySem.W.Frag} {mg : Str → Option Value} {base : Heap} {A : Ad} {f : Addr} {fd : FuncData}
theorem zmr:∀{L:List (Str×Int×Int)} {rs:List Addr} {name:Str} {b:Int×Int},rs.length=L.length→L.lookup name=some b →
  ∃(i:Nat) (r:Addr),L[i]? = some (name,b)∧rs[i]? = some r∧zhJ ((L.zip rs).map λx=>((.inr x.1.1:Key),V.ref x.2)) (.inr name)=some (.ref r)
 | [],_,_,_,_,h=>by cases h
 | _::_,[],_,_,h,_=>by cases h
 | (a,c)::L,r::rs,name,b,hl,h=>by
  rw[List.lookup_cons] at h
  by_cases e:name=a
  ·subst e
   rw[beq_self_eq_true] at h
   cases h
   exact⟨0,r,rfl,rfl,zfx rfl⟩
  ·rw[beq_eq_false_iff_ne.mpr e] at h
   obtain⟨i,r',h1,h2,h3⟩:=zmr (L:=L) (rs:=rs) (by simpa using hl) h
   refine⟨i + 1,r',h1,h2,?_⟩
   rw[List.zip_cons_cons,List.map_cons,zdU (λz=>e (Sum.inr.inj z).symm)]
   exact h3
def zcG (p:Str×Int):Bool:=match L_RANGES.lookup p.1 with
 | some b=>decide (b.1≤p.2) && decide (p.2≤b.2)
 | none=>false
def zgY:Sp:=λvs H Q _=>∃(name:Str) (v:Int),vs=[.str name,.int v]∧(∃b,L_RANGES.lookup name=some b)∧Q (.bl (zcG (name,v))) H
abbrev zd3:=top 43
abbrev zee (P:Program) (w:World) (K:PySem.W.Frag) (mg:Str→Option Value) (base:Heap) (A:Ad):Prop:=FnI P w K mg base "is_in_range" 1 ["name","number"] (zgY)
theorem zhT (F:Fun K "is_in_range" "is_in_range" zd3 f fd) (T:Txt K mg A) (TD:TxtD P w K A):FnOk P w K mg base CX0 1 f fd ["name","number"] (zgY):=by
 have sc:FnScope ["name","number","bounds"] ["name","number"] (zbK zd3):=fsc
 refine F.ok sc (by rintro _ _ _ _ ⟨name,v,rfl,_⟩;rfl) λcdv Ar outer s H vs Q E hr h=>?_
 obtain⟨name,v,rfl,h⟩:=h
 refine⟨_,(zbC (zbP (i:=2) sc.nd rfl (by first | exact Or.inl rfl | exact Or.inr rfl) (zpT (zb8 hr) (zkA T.r_RANGES (by rfl)) (pv 0) (λ_ _=>rfl))) (zbF (zbJ (zot zhK zhK (zfp zjY (pv 2) zbN (λ_ _=>rfl)) (pv 1) (zfp zjY (pv 2) zbN (λ_ _=>rfl)))))),?_⟩
 obtain⟨⟨b,hb⟩,q⟩:=h
 obtain⟨rs,hl,kd,ht⟩:=TD.d_RANGES
 obtain⟨i,r,h1,h2,h3⟩:=zmr hl hb
 refine⟨_,rfl,_,_,.inr name,_,rfl,kd,rfl,h3,?_⟩
 refine⟨_,rfl,_,_,0,.int b.1,rfl,rfl,ht i _ r h1 h2 _,rfl,_,rfl,_,_,rfl,rfl,_,rfl,?_⟩
 have e:zcG (name,v)=(decide (b.1≤v) && decide (v≤b.2)):=by
  unfold zcG;rw[hb]
 rw[e] at q
 refine zb9 (λh4=>?_) (λh4=>?_)
 ·refine⟨_,rfl,_,_,1,.int b.2,rfl,rfl,ht i _ r h1 h2 _,rfl,_,_,rfl,rfl,?_⟩
  rw[h4,Bool.true_and] at q;exact q
 ·rw[Bool.not_eq_true _ |>.mp h4,Bool.false_and] at q;exact q
def zdg (ns:List (Str×Int)):List (Key×V):=ns.map λp=>(.inr p.1,.int p.2)
def ziL (p:Str×List Int):Bool:=decide (p.2.length≤64) && p.2.all λv=>zcG (p.1,v)
def zmG:Sp:=λvs H Q _=>∃(name:Str) (l:Addr),vs=[.str name,.ref l]∧∃row:List Int,H l=some (.lst (row.map V.int))∧(∃b,L_RANGES.lookup name=some b)∧row.length≤20000∧∀H',Same H H'→Q (.bl (ziL (name,row))) H'
abbrev zde:=top 42
abbrev zej (P:Program) (w:World) (K:PySem.W.Frag) (mg:Str→Option Value) (base:Heap) (A:Ad):Prop:=FnI P w K mg base "is_row_as_told" 2 ["name","row"] (zmG)
theorem zf6 (F:Fun K "is_row_as_told" "is_row_as_told" zde f fd) (T:Txt K mg A) (zaI:zee P w K mg base A):FnOk P w K mg base CX0 2 f fd ["name","row"] (zmG):=by
 have sc:FnScope ["name","row","number"] ["name","row"] (zbK zde):=fsc
 refine F.ok sc (by rintro _ _ _ _ ⟨name,l,rfl,_⟩;rfl) λcdv Ar outer s H vs Q E hr h=>?_
 obtain⟨name,l,rfl,h⟩:=h
 refine⟨_,(zbF (zbJ (zgq (zcN zhK (zbT zcc (by rfl) T.n_len (by decide +kernel) (zbB (pv 1) zbD)) (zb6 T.i_LONGEST_ROW (by rfl)) (zbR _)) (zig (zbT (zly rfl) (by rfl) T.n_all (by decide +kernel) (zbB (zfF rfl sc.nd (zcD (pv 1)) (zcr (own:=[("number",2)]) (by rfl)) (λ_ _ _ _ _=>(zbW (i:=2) sc.nd (by rfl) (by first | exact Or.inl rfl | exact Or.inr rfl) (by first | exact Or.inl rfl | exact Or.inr rfl))) (λ_ _ _ _ _=>zcV) (λ_ _ _ _ _=>(zbH zaI (hr.mono (by decide)) (by rfl) (zbB (pv 0) (zbB (pv 2) zbD))))) zbD)))))),?_⟩
 obtain⟨row,hl,hb,hz,q⟩:=h
 refine⟨_,rfl,?_⟩
 refine⟨_,_,rfl,.inl ⟨_,SqL.of hl,rfl⟩,?_⟩
 refine⟨_,_,rfl,rfl,⟨_,rfl,?_⟩⟩
 rw[List.length_map]
 have e:ziL (name,row)=(decide ((row.length:Int)≤64) && row.all λv=>zcG (name,v)):=by
  unfold ziL
  congr 1
  rw[decide_eq_decide]
  show row.length≤64↔_
  omega
 rw[e] at q
 refine zb9 (λh1=>?_) (λh1=>?_)
 ·rw[h1,Bool.true_and] at q
  refine⟨_,rfl,?_⟩
  dsimp only
  refine zeN (SqL.of hl) (row.map λv=>V.bl (zcG (name,v))) (by rw[List.length_map,List.length_map]) (by rw[List.length_map];exact Nat.le_trans hz (by decide)) (λi x y H2 Q' hx hy s2 q'=>?_) (λD H2 hD s2 h2=>?_)
  ·rw[List.getElem?_map] at hx hy
   cases ev:row[i]? with
   | none=>rw[ev] at hx;cases hx
   | some v =>
    rw[ev] at hx hy
    cases hx;cases hy
    refine⟨_,rfl,⟨_,rfl,?_⟩⟩
    exact⟨_,_,rfl,hb,q' _ (Same.refl _)⟩
  ·refine⟨D,row.map λv=>zcG (name,v),rfl,SqL.of (by rw[h2,List.map_map];rfl),?_⟩
   have e2:(row.map λv=>zcG (name,v)).all id=row.all λv=>zcG (name,v):=by rw[List.all_map];rfl
   rw[e2]
   exact q _ s2
 ·rw[Bool.not_eq_true _ |>.mp h1,Bool.false_and] at q
  exact q _ (Same.refl _)
def zel (rs:List (Str×Addr)):List (Key×V):=rs.map λp=>(.inr p.1,.ref p.2)
def zgK (p:Int) (dn dr:Addr):List (Str×V):=[("place",.int p),("numbers",.ref dn),("rows",.ref dr)]
def zh5 (A:Ad):Sp:=λvs H Q _=>∃(c:Addr),vs=[.ref c]∧∃(p:Int) (dx dn dr:Addr) (ns:List (Str×Int)) (rs:List (Str×Addr)) (rows:List (Str×List Int)),H c=some (.ins A.cCall dx (zgK p dn dr))∧H dn=some (.dK (zdg ns))∧H dr=some (.dK (zel rs)) ∧
 (∀p∈ns,∃b,L_RANGES.lookup p.1=some b)∧ns.length≤1000∧rs.length≤1000∧rs.length=rows.length∧(∀(i:Nat) x y,rs[i]? = some x→rows[i]? = some y→x.1=y.1∧(∃b,L_RANGES.lookup y.1=some b)∧y.2.length≤20000∧H x.2=some (.lst (y.2.map V.int))) ∧
 ∀H',Same H H'→Q (.bl (ns.all zcG && rows.all ziL)) H'
abbrev zez:=top 41
abbrev zgC (P:Program) (w:World) (K:PySem.W.Frag) (mg:Str→Option Value) (base:Heap) (A:Ad):Prop:=FnI P w K mg base "is_as_told" 3 ["call"] (zh5 A)
theorem ziZ (F:Fun K "is_as_told" "is_as_told" zez f fd) (T:Txt K mg A) (zaJ:zej P w K mg base A) (zaI:zee P w K mg base A):FnOk P w K mg base CX0 3 f fd ["call"] (zh5 A):=by
 have sc:FnScope ["call","name","number","row"] ["call"] (zbK zez):=fsc
 refine F.ok sc (by rintro _ _ _ _ ⟨c,rfl,_⟩;rfl) λcdv Ar outer s H vs Q E hr h=>?_
 obtain⟨c,rfl,h⟩:=h
 refine⟨_,(zbC (zbU (zcW (zcy (zbT (zly rfl) (by rfl) T.n_all (by decide +kernel) (zbB (zm2 (zfF rfl sc.nd (zlf (zbE (pv 0) rfl)) (zcr (own:=[("name",1),("number",2)]) (by rfl)) (λ_ _ _ _ _=>(zeE (Kf:=K) (n:=2) (by rfl) (by rfl) (zck (zbW (i:=1) sc.nd (by rfl) (by first | exact Or.inl rfl | exact Or.inr rfl) (by first | exact Or.inl rfl | exact Or.inr rfl)) (zck (zbW (i:=2) sc.nd (by rfl) (by first | exact Or.inl rfl | exact Or.inr rfl) (by first | exact Or.inl rfl | exact Or.inr rfl)) zd6)))) (λ_ _ _ _ _=>zcV) (λ_ _ _ _ _=>(zbH zaI (hr.mono (by decide)) (by rfl) (zbB (pv 1) (zbB (pv 2) zbD)))))) zbD)))) (zbF (zbJ zou)) zbM) (zbF (zbJ (zbT (zly rfl) (by rfl) T.n_all (by decide +kernel) (zbB (zm2 (zfF rfl sc.nd (zlf (zbE (pv 0) rfl)) (zcr (own:=[("name",1),("row",3)]) (by rfl)) (λ_ _ _ _ _=>(zeE (Kf:=K) (n:=2) (by rfl) (by rfl) (zck (zbW (i:=1) sc.nd (by rfl) (by first | exact Or.inl rfl | exact Or.inr rfl) (by first | exact Or.inl rfl | exact Or.inr rfl)) (zck (zbW (i:=3) sc.nd (by rfl) (by first | exact Or.inl rfl | exact Or.inr rfl) (by first | exact Or.inl rfl | exact Or.inr rfl)) zd6)))) (λ_ _ _ _ _=>zcV) (λ_ _ _ _ _=>(zbH zaJ (hr.mono (by decide)) (by rfl) (zbB (pv 1) (zbB (pv 3) zbD)))))) zbD))))),?_⟩
 obtain⟨p,dx,dn,dr,ns,rs,rows,hc,hd,hdr,hk,hz,hz2,hl2,hrow,q⟩:=h
 refine⟨dn,_,hd,trivial,λob=>?_⟩
 have nc:c≠dn:=zeb hc hd (by intro z;cases z)
 have hc1:(upd H dn (.frz ob (.dK (zdg ns)))) c=some (.ins A.cCall dx (zgK p dn dr)):=by rw[zbL nc];exact hc
 refine⟨_,rfl,gC T hc1 rfl ?_⟩
 dsimp only
 refine zim (ob:=ob) (kvs:=zdg ns) zbG (by unfold zdg;rw[List.length_map];exact Nat.le_of_lt (zb0 hz)) (by decide) (ns.map λp=>V.bl (zcG p)) (by unfold zdg;rw[List.length_map,List.length_map]) (λi k v y H2 Q' hx hy s2 q'=>?_) (λD H2 hD s2 h2=>?_)
 ·unfold zdg at hx
  rw[List.getElem?_map] at hx hy
  cases e:ns[i]? with
  | none=>rw[e] at hx;cases hx
  | some p =>
   rw[e] at hx hy
   cases hx;cases hy
   refine⟨_,rfl,⟨_,rfl,?_⟩⟩
   exact⟨_,_,rfl,hk p (List.mem_of_getElem? e),q' _ (Same.refl _)⟩
 ·have nD:D≠dn:=λz=>by rw[z,zbG] at hD;cases hD
  refine⟨s2 _ _ zbG,D,ns.map zcG,rfl,SqL.of ?_,?_⟩
  ·rw[zbL nD,h2,List.map_map];rfl
  ·have e:(ns.map zcG).all id=ns.all zcG:=by rw[List.all_map];rfl
   rw[e]
   have sA:=Same.unlock hd s2
   generalize (upd H2 dn (.dK (zdg ns)))=H3 at sA ⊢
   refine⟨_,rfl,?_⟩
   refine zb9 (λh3=>?_) (λh3=>?_)
   ·have h3:ns.all zcG=false:=by simpa using h3
    rw[h3,Bool.false_and] at q
    exact q _ sA
   have h3:ns.all zcG=true:=by simpa using h3
   rw[h3,Bool.true_and] at q
   have hdr3:=sA _ _ hdr
   refine⟨dr,_,hdr3,trivial,λob2=>?_⟩
   have nc2:c≠dr:=zeb hc hdr (by intro z;cases z)
   have hc2:(upd H3 dr (.frz ob2 (.dK (zel rs)))) c=some (.ins A.cCall dx (zgK p dn dr)):=by rw[zbL nc2];exact sA _ _ hc
   refine⟨_,rfl,gC T hc2 rfl ?_⟩
   dsimp only
   refine zim (ob:=ob2) (kvs:=zel rs) zbG (by unfold zel;rw[List.length_map];exact Nat.le_of_lt (zb0 hz2)) (by decide) (rows.map λp=>V.bl (ziL p)) (by unfold zel;rw[List.length_map,List.length_map];exact hl2.symm) (λi k v y H4 Q' hx hy s4 q'=>?_) (λD2 H4 hD2 s4 h4=>?_)
   ·unfold zel at hx
    rw[List.getElem?_map] at hx hy
    cases e1:rs[i]? with
    | none=>rw[e1] at hx;cases hx
    | some x =>
     cases e2:rows[i]? with
     | none=>rw[e2] at hy;cases hy
     | some r =>
      rw[e1] at hx
      rw[e2] at hy
      cases hx;cases hy
      obtain⟨en,hb,hrl,hl⟩:=hrow i x r e1 e2
      have nx:x.2≠dr:=zeb hl hdr (by intro z;cases z)
      have hl4:H4 x.2=some (.lst (r.2.map V.int)):=s4 _ _ (by rw[zbL nx];exact sA _ _ hl)
      refine⟨_,rfl,⟨_,rfl,?_⟩⟩
      exact⟨x.1,x.2,rfl,r.2,hl4,by rw[en];exact hb,hrl,λH5 s5=>by rw[en];exact q' _ s5⟩
   ·have nD2:D2≠dr:=λz=>by rw[z,zbG] at hD2;cases hD2
    refine⟨s4 _ _ zbG,D2,rows.map ziL,rfl,SqL.of ?_,?_⟩
    ·rw[zbL nD2,h4,List.map_map];rfl
    ·have e2:(rows.map ziL).all id=rows.all ziL:=by rw[List.all_map];rfl
     rw[e2]
     exact q _ (sA.trans (Same.unlock hdr3 s4))
theorem zlL {ns:List (Str×Int)} {x:Str} (h:x ∉ ns.map (·.1)):zhJ (zdg ns) (.inr x)=none:=by
 induction ns with
 | nil=>rfl
 | cons p r ih =>
  rw[List.map_cons,List.mem_cons,not_or] at h
  unfold zdg
  rw[List.map_cons,zdU (λz=>h.1 (Sum.inr.inj z).symm)]
  exact ih h.2
def zfy (K:PySem.W.Frag):Sp:=λvs H Q _=>∃(a:Addr) (k:Nat) (t:Addr),vs=[.ref a,.int k,.ref t]∧∃(l:List Int) (names:List Str),SqL K H a (l.map V.int)∧(∀H,SqT K H t (names.map V.str))∧names.Nodup∧names.length≤1000∧k + names.length≤l.length ∧
 ∀H' d,Same H H'→H d=none→H' d=some (.dK (zdg (names.zip (l.drop k))))→Q (.ref d) H'
abbrev zdF:=top 40
abbrev ze3 (P:Program) (w:World) (K:PySem.W.Frag) (mg:Str→Option Value) (base:Heap) (A:Ad):Prop:=FnI P w K mg base "read_numbers" 1 ["calls","spot","names"] (zfy K)
theorem zhg (F:Fun K "read_numbers" "read_numbers" zdF f fd) (T:Txt K mg A):FnOk P w K mg base CX0 1 f fd ["calls","spot","names"] (zfy K):=by
 have sc:FnScope ["calls","spot","names","numbers","k","name"] ["calls","spot","names"] (zbK zdF):=fsc
 refine F.ok sc (by rintro _ _ _ _ ⟨a,k,t,rfl,_⟩;rfl) λcdv Ar outer s H vs Q E hr h=>?_
 obtain⟨a,k,t,rfl,h⟩:=h
 refine⟨_,(zbC (zbP (i:=3) sc.nd rfl (by first | exact Or.inl rfl | exact Or.inr rfl) zlh) (zbC (zdv PassesOwn.never rfl (zoo (by rfl) T.n_enumerate (zbB (pv 2) zbD)) (zpu (n:=2) (by rfl) (zck (zbW (i:=4) sc.nd (by rfl) (by first | exact Or.inl rfl | exact Or.inr rfl) (by first | exact Or.inl rfl | exact Or.inr rfl)) (zck (zbW (i:=5) sc.nd (by rfl) (by first | exact Or.inl rfl | exact Or.inr rfl) (by first | exact Or.inl rfl | exact Or.inr rfl)) zd6))) (zbF (zmX (zb8 hr) (pv 3) (pv 5) (zfp zdL (pv 0) (zb2 zcK (pv 1) (pv 4)) (λ_ _=>rfl)) rfl))) (zbF (zbJ (pv 3))))),?_⟩
 obtain⟨l,names,hl,ht,hnd,hz,hlen,q⟩:=h
 intro D hD
 refine⟨_,rfl,?_⟩
 refine⟨t,_,rfl,ht _,?_⟩
 refine znC (K:=K) (j1:=4) (j2:=5) ht (λi σ H'=>(∃o4 o5,σ=[some (.ref a),some (.int k),some (.ref t),some (.ref D),o4,o5])∧Same H H'∧H' D=some (.dK (zdg ((names.zip (l.drop k)).take i)))) ⟨⟨none,none,rfl⟩,Same.upd hD,zbG⟩ (λi x T σ H' hx hT h=>?_) (λσ H' h=>?_)
 ·obtain⟨⟨o4,o5,rfl⟩,s1,h1⟩:=h
  have sT:Same H' (upd H' T (.tup [.int (i:Nat),x])):=Same.upd hT
  generalize (upd H' T (.tup [.int (i:Nat),x]))=H2 at sT ⊢
  rw[List.getElem?_map] at hx
  cases en:names[i]? with
  | none=>rw[en] at hx;cases hx
  | some nm =>
   rw[en] at hx
   cases hx
   have hi:i < names.length:=(List.getElem?_eq_some_iff.mp en).1
   have hki:k + i < l.length:=by omega
   have hv:l[k + i]? = some l[k + i]:=List.getElem?_eq_getElem hki
   have hp:(names.zip (l.drop k))[i]? = some (nm,l[k + i]):=by
    rw[List.getElem?_zip_eq_some]
    exact⟨en,by rw[List.getElem?_drop];exact hv⟩
   refine⟨_,rfl,_,rfl,_,rfl,_,_,rfl,rfl,a,_,_,.int l[k + i],rfl,rfl,(s1.trans sT).seq hl,zrj (j:=k + i) (by omega) (by rw[List.getElem?_map,hv];rfl),?_⟩
   refine⟨_,rfl,_,rfl,D,_,rfl,DPut.k (k:=.inr nm) (sT _ _ h1) ?_,?_⟩
   ·unfold zdg
    rw[List.length_map,List.length_take]
    exact Nat.lt_of_le_of_lt (Nat.min_le_left _ _) (zb0 (by omega))
   ·refine⟨⟨_,_,rfl⟩,λb o e=>?_,?_⟩
    ·rw[zbL (zbI e hD)];exact sT _ _ (s1 _ _ e)
    ·have hnot:nm ∉ ((names.zip (l.drop k)).take i).map (·.1):=by
      intro hm
      obtain⟨p,hp1,hp2⟩:=List.mem_map.mp hm
      obtain⟨j,hj,ej⟩:=List.mem_take_iff_getElem.mp hp1
      have hj':(names.zip (l.drop k))[j]? = some p:=by rw[←ej];exact List.getElem?_eq_getElem _
      obtain⟨p1,p2⟩:=p
      rw[List.getElem?_zip_eq_some] at hj'
      have:=zp5 hnd (hj'.1.trans (congrArg some hp2)) en
      omega
     rw[zbG,L2.zb4 hp,zlb _ (zlL hnot)]
     unfold zdg
     rw[List.map_append]
     rfl
 ·obtain⟨⟨o4,o5,rfl⟩,s1,h1⟩:=h
  refine⟨_,rfl,?_⟩
  refine q _ D s1 hD ?_
  rw[h1,List.take_of_length_le]
  rw[List.length_zip,List.length_map]
  exact Nat.min_le_left _ _
end
end Z
namespace Z
open PySem PySem.Spec PyProof.Rows L2
open Vbeman (Line Right House Bid)
def zeo (S:List Addr) (H:Hp):Hp:=λb=>if b∈S then none else H b
theorem zcS {S:List Addr} {H:Hp} {b:Addr} {o:HO} (h:zeo S H b=some o):b ∉ S∧H b=some o:=by
 unfold zeo at h
 by_cases e:b∈S
 ·rw[if_pos e] at h;cases h
 ·rw[if_neg e] at h;exact⟨e,h⟩
theorem zcY {S:List Addr} {H:Hp} {b:Addr} {o:HO} (h:H b=some o) (n:b ∉ S):zeo S H b=some o:=by
 unfold zeo;rw[if_neg n];exact h
theorem zfK {S:List Addr} {H H':Hp} (s:Same H H'):Same (zeo S H) (zeo S H'):=λb o e=>let ⟨n,h⟩:=zcS e;zcY (s _ _ h) n
theorem zdD {S:List Addr} {H:Hp}:Same (zeo S H) H:=λb o e=>(zcS e).2
theorem zj1 {S S':List Addr} {H:Hp} (h:∀b∈S',b∈S):Same (zeo S H) (zeo S' H):=λb o e=>let ⟨n,x⟩:=zcS e;zcY x λm=>n (h b m)
theorem zi8 {S:List Addr} {H:Hp} {a:Addr} {o:HO} (h:a∈S):zeo S (upd H a o)=zeo S H:=by
 funext b
 unfold zeo
 by_cases e:b∈S
 ·rw[if_pos e,if_pos e]
 ·rw[if_neg e,if_neg e,zbL (λz=>e (by rw[z];exact h))]
def fresh (H H':Hp):Hp:=λb=>match H b with
 | none=>H' b
 | some _=>none
theorem zeX {H H':Hp} {b:Addr} {o:HO} (h:H' b=some o) (n:H b=none):fresh H H' b=some o:=by unfold fresh;rw[n];exact h
theorem zlt {H H':Hp} {b:Addr} {o:HO} (h:fresh H H' b=some o):H b=none∧H' b=some o:=by
 unfold fresh at h
 cases e:H b with
 | none=>rw[e] at h;exact⟨rfl,h⟩
 | some u=>rw[e] at h;cases h
theorem zge {H H1 H2:Hp} (s:Same H1 H2):Same (fresh H H1) (fresh H H2):=λb o e=>let ⟨n,h⟩:=zlt e;zeX (s _ _ h) n
theorem zj3 {S:List Addr} {H H':Hp} {a:Addr} {o:HO} (h:a∈S):zeo S (fresh H (upd H' a o))=zeo S (fresh H H'):=by
 funext b
 unfold zeo
 by_cases e:b∈S
 ·rw[if_pos e,if_pos e]
 ·rw[if_neg e,if_neg e]
  unfold fresh
  rw[zbL (λz=>e (by rw[z];exact h))]
structure PCall where
 place:Int
 nums:List (Str×Int)
 rnames:List Str
 rows:List (List Int)
def rowNames (p:Int):List Str:=(L_ROW_NAMES.lookup p).getD []
def namesOf (p:Int):List Str:=L_NUMBER_NAMES.getD p.toNat []
def toP (c:List (List Int)):PCall:=match c with
 | (p::xs)::rows=>⟨p,(namesOf p).zip xs,rowNames p,rows⟩
 | _=>⟨0,[],[],[]⟩
def zjg (H:Hp) (b:Addr) (row:List Int):Prop:=H b=some (.lst (row.map V.int))
def CallAt (A:Ad) (H:Hp) (a:Addr) (c:PCall):Prop:=∃(dx dn dr:Addr) (ra:List Addr),H a=some (.ins A.cCall dx (zgK c.place dn dr))∧H dn=some (.dK (zdg c.nums))∧H dr=some (.dK (zel (c.rnames.zip ra)))∧AllAt (zjg H) ra c.rows
theorem CallAt.same {A:Ad} {H H':Hp} {a:Addr} {c:PCall} (h:CallAt A H a c) (s:Same H H'):CallAt A H' a c:=by
 obtain⟨dx,dn,dr,ra,h1,h2,h3,h4⟩:=h
 exact⟨dx,dn,dr,ra,s _ _ h1,s _ _ h2,s _ _ h3,h4.imp λb r h=>s _ _ h⟩
theorem zmh {sh:Int→Option (Nat×Nat)} {f:Nat} {p:Int} {r:List Int} {cs:List (List (List Int))} (h:PyFlat.calls sh f (p::r)=some cs) :
  ∃f' c t cs',PyFlat.call sh (p::r)=some (c,t)∧PyFlat.calls sh f' t=some cs'∧cs=c::cs':=by
 cases f with
 | zero=>cases h
 | succ f =>
  unfold PyFlat.calls at h
  split at h
  ·cases h
  ·rename_i c t e
   split at h
   ·cases h
   ·rename_i cs' e'
    exact⟨f,c,t,cs',e,e',(Option.some.inj h).symm⟩
theorem zj8 {sh:Int→Option (Nat×Nat)} {f:Nat} {cs:List (List (List Int))} (h:PyFlat.calls sh f []=some cs):cs=[]:=by
 cases f <;> (unfold PyFlat.calls at h;exact (Option.some.inj h).symm)
theorem zlB {sh:Int→Option (Nat×Nat)} {p:Int} {r t:List Int} {c:List (List Int)} (h:PyFlat.call sh (p::r)=some (c,t)) :
  ∃n k xs,sh p=some (n,k)∧n≤r.length∧PyFlat.rows k (r.drop n)=some (xs,t)∧c=(p::r.take n)::xs:=by
 unfold PyFlat.call at h
 dsimp only at h
 cases e:sh p with
 | none=>rw[e] at h;cases h
 | some x =>
  obtain⟨n,k⟩:=x
  rw[e] at h
  dsimp only at h
  by_cases hn:r.length < n
  ·rw[if_pos hn] at h;cases h
  ·rw[if_neg hn] at h
   cases e2:PyFlat.rows k (r.drop n) with
   | none=>rw[e2] at h;cases h
   | some y =>
    obtain⟨xs,t'⟩:=y
    rw[e2] at h
    cases h
    exact⟨n,k,xs,rfl,by omega,e2,rfl⟩
theorem zhc {k:Nat} {l t:List Int} {xs:List (List Int)} (h:PyFlat.rows (k + 1) l=some (xs,t)) :
  ∃(n:Int) (r:List Int) (xs':List (List Int)),l=n::r∧0≤n∧n.toNat≤r.length∧PyFlat.rows k (r.drop n.toNat)=some (xs',t)∧xs=r.take n.toNat::xs':=by
 unfold PyFlat.rows at h
 split at h
 ·cases h
 ·rename_i x s e
  unfold PyFlat.row at e
  split at e
  ·cases e
  ·rename_i n r
   split at e
   ·rename_i hn
    cases e
    split at h
    ·cases h
    ·rename_i xs' t' e'
     cases h
     exact⟨n,r,xs',rfl,hn.1,hn.2,e',rfl⟩
   ·cases e
theorem zjl:∀(a:List Str) (r:List Int) (n:Nat),a.length≤n→a.zip (r.take n)=a.zip r
 | [],_,_,_=>rfl
 | _::_,[],n,_=>by rw[List.take_nil]
 | x::a,y::r,0,h=>by simp at h
 | x::a,y::r,n + 1,h=>by
  rw[List.take_succ_cons,List.zip_cons_cons,List.zip_cons_cons,zjl a r n (by simpa using h)]
theorem zms {p:Int}:∀{L:List (Int×List Str)} {rs:List Addr},rs.length=L.length→match L.lookup p with
  | some ns=>∃(i:Nat) (r:Addr),L[i]? = some (p,ns)∧rs[i]? = some r∧zhJ ((L.zip rs).map λx=>((.inl x.1.1:Key),V.ref x.2)) (.inl p)=some (.ref r)
  | none=>zhJ ((L.zip rs).map λx=>((.inl x.1.1:Key),V.ref x.2)) (.inl p)=none
 | [],_,_=>rfl
 | _::_,[],h=>by cases h
 | (a,c)::L,r::rs,hl=>by
  rw[List.lookup_cons]
  by_cases e:p=a
  ·subst e
   rw[beq_self_eq_true]
   exact⟨0,r,rfl,rfl,zfx rfl⟩
  ·rw[beq_eq_false_iff_ne.mpr e]
   have ih:=zms (p:=p) (L:=L) (rs:=rs) (by simpa using hl)
   rw[List.zip_cons_cons,List.map_cons,zdU (λz=>e (Sum.inl.inj z).symm)]
   show match L.lookup p with | some ns=>_ | none=>_
   cases eL:L.lookup p with
   | none=>rw[eL] at ih;exact ih
   | some ns =>
    rw[eL] at ih
    obtain⟨i,r',h1,h2,h3⟩:=ih
    exact⟨i + 1,r',h1,h2,h3⟩
theorem zkW:∀{rn:List Str} {ra:List Addr} {nm:Str} {p:Addr},rn[ra.length]? = some nm→rn.zip (ra++[p])=rn.zip ra++[(nm,p)]
 | [],ra,nm,p,h=>by simp at h
 | x::rn,[],nm,p,h=>by
  have e:x=nm:=Option.some.inj h
  subst e
  show (x,p)::rn.zip []=[]++[(x,p)]
  rw[List.zip_nil_right]
  rfl
 | x::rn,a::ra,nm,p,h=>by
  have ih:=zkW (rn:=rn) (ra:=ra) (nm:=nm) (p:=p) h
  show (x,a)::rn.zip (ra++[p])=(x,a)::(rn.zip ra++[(nm,p)])
  rw[ih]
theorem zlK {rs:List (Str×Addr)} {x:Str} (h:x ∉ rs.map (·.1)):zhJ (zel rs) (.inr x)=none:=by
 induction rs with
 | nil=>rfl
 | cons p r ih =>
  rw[List.map_cons,List.mem_cons,not_or] at h
  unfold zel
  rw[List.map_cons,zdU (λz=>h.1 (Sum.inr.inj z).symm)]
  exact ih h.2
theorem ze9 {p:Int} {x:Nat×Nat} (h:PyVbeman.shape p=some x):∃i:Nat,i < 26∧p=(i:Int):=by
 by_cases hp:0≤p∧p < 26
 ·exact⟨p.toNat,by omega,by omega⟩
 ·exfalso
  unfold PyVbeman.shape at h
  iterate 26 (rw[if_neg (by omega)] at h)
  cases h
theorem zmN:∀i:Fin 26,PyVbeman.shape ((i:Nat):Int)=some ((namesOf ((i:Nat):Int)).length,(rowNames ((i:Nat):Int)).length)∧(rowNames ((i:Nat):Int)).Nodup∧(rowNames ((i:Nat):Int)).length≤2∧(namesOf ((i:Nat):Int)).Nodup∧(namesOf ((i:Nat):Int)).length≤6∧L_NUMBER_NAMES[(i:Nat)]? = some (namesOf ((i:Nat):Int)):=by decide +kernel
theorem ziA {i n k:Nat} (hi:i < 26) (h:PyVbeman.shape (i:Int)=some (n,k)):(namesOf (i:Int)).length=n∧(rowNames (i:Int)).length=k∧(namesOf (i:Int)).Nodup∧n≤6∧k≤2∧L_NUMBER_NAMES[i]? = some (namesOf (i:Int))∧(rowNames (i:Int)).Nodup:=by
 obtain⟨h1,h2,h3,h4,h5,h6⟩:=zmN ⟨i,hi⟩
 have h1:PyVbeman.shape (i:Int)=some ((namesOf (i:Int)).length,(rowNames (i:Int)).length):=h1
 rw[h1] at h
 have h:=Option.some.inj h
 have e1:(namesOf (i:Int)).length=n:=congrArg Prod.fst h
 have e2:(rowNames (i:Int)).length=k:=congrArg Prod.snd h
 exact⟨e1,e2,h4,by rw[←e1];exact h5,by rw[←e2];exact h3,h6,h2⟩
theorem zqj {l:List Int} {lo hi:Nat} (h1:lo≤hi) (h2:hi≤l.length):zmo (l.map V.int) (some (lo:Int)) (some (hi:Int))=((l.drop lo).take (hi - lo)).map V.int:=by
 unfold zmo
 rw[HT.sIx_nat,HT.sIx_nat,List.length_map,Nat.min_eq_left (show lo≤l.length by omega),Nat.min_eq_left h2,List.map_take,List.map_drop]
section
variable {P : Program} {w : World} {K : PySem.W.Frag} {mg : Str → Option Value} {base : Heap} {A : Ad} {f : Addr} {fd : FuncData}
def zib (A:Ad):Sp:=λvs H Q _=>∃(x:Addr) (p:Int) (dn dr:Addr),vs=[.ref x,.int p,.ref dn,.ref dr]∧∃dx,H x=some (.ins A.cCall dx [])∧Q .non (upd H x (.ins A.cCall dx (zgK p dn dr)))
abbrev zfn:=zdy (top 38) 0
abbrev zpD (P:Program) (w:World) (K:PySem.W.Frag) (mg:Str→Option Value) (base:Heap) (A:Ad):Prop:=MkI P w K mg base "Call" A.cCall 1 ["self","place","numbers","rows"] (zib A)
theorem zjW (F:Fun K "__init__" "Call.__init__" zfn f fd) (T:Txt K mg A):FnOk P w K mg base CX0 1 f fd ["self","place","numbers","rows"] (zib A):=by
 have sc:FnScope ["self","place","numbers","rows"] ["self","place","numbers","rows"] (zbK zfn):=fsc
 refine F.ok sc (by rintro _ _ _ _ ⟨x,p,dn,dr,rfl,_⟩;rfl) λcdv Ar outer s H vs Q E hr h=>?_
 obtain⟨x,p,dn,dr,rfl,h⟩:=h
 refine⟨_,(zbC (zbX (pv 0) (pv 1) rfl) (zbC (zbX (pv 0) (pv 2) rfl) (zbF (zbX (pv 0) (pv 3) rfl)))),?_⟩
 obtain⟨dx,hx,q⟩:=h
 refine⟨_,rfl,_,rfl,x,_,dx,[],rfl,hx,T.clC,T.naC _ (by decide),(by show 0 < 1000;decide),?_⟩
 refine⟨_,rfl,_,rfl,x,_,dx,[("place",.int p)],rfl,zbG,T.clC,T.naC _ (by decide),(by show 1 < 1000;decide),?_⟩
 rw[zcg]
 refine⟨_,rfl,_,rfl,x,_,dx,[("place",.int p),("numbers",.ref dn)],rfl,zbG,T.clC,T.naC _ (by decide),(by show 2 < 1000;decide),?_⟩
 rw[zcg]
 exact q
def CallsAt (A:Ad) (H:Hp) (p:Addr) (cs:List PCall):Prop:=∃as,H p=some (.lst (as.map V.ref))∧AllAt (CallAt A H) as cs
def zgX (A:Ad) (K:PySem.W.Frag):Sp:=λvs H Q _=>∃(a:Addr),vs=[.ref a]∧∃(l:List Int) (cs:List (List (List Int))),SqL K H a (l.map V.int)∧l.length≤20000∧(∃f,PyFlat.calls PyVbeman.shape f l=some cs) ∧
 ∀H' p,Same H H'→H p=none→CallsAt A (fresh H H') p (cs.map toP)→Q (.ref p) H'
structure ReadAt (A:Ad) (l:List Int) (cs:List (List (List Int))) (H H':Hp) (D:Addr) (k:Nat) (as:List Addr) (dn rest:List (List (List Int))):Prop where
 same:Same H H'
 lst:H' D=some (.lst (as.map V.ref))
 all:AllAt (CallAt A (zeo [D] (fresh H H'))) as (dn.map toP)
 le:k≤l.length
 len:dn.length≤k
 rst:∃f,PyFlat.calls PyVbeman.shape f (l.drop k)=some rest
 eq:cs=dn++rest
structure RowsAt (H0:Hp) (lo:Nat) (l:List Int) (t:List Int) (rn:List Str) (xs:List (List Int)) (H2 H':Hp) (D R:Addr) (sp:Nat) (ra:List Addr) (dr:List (List Int)) (j:Nat):Prop where
 same:Same H2 H'
 lst:H' R=some (.dK (zel (rn.zip ra)))
 all:AllAt (zjg (zeo [D,R] (fresh H0 H'))) ra dr
 ge:lo≤sp
 le:sp≤l.length
 len:dr.length=j
 rst:∃xr,PyFlat.rows (rn.length - j) (l.drop sp)=some (xr,t)∧xs=dr++xr
def zqR (σ:List (Option V)):Nat:=match σ[2]? with
 | some (some (V.int k))=>k.toNat
 | _=>0
theorem zj6 {l:List Int} {k:Nat} (h:k < l.length):l.drop k=l[k]::l.drop (k + 1):=(List.getElem_cons_drop h).symm
abbrev zey:=top 39
abbrev zgB (P:Program) (w:World) (K:PySem.W.Frag) (mg:Str→Option Value) (base:Heap) (A:Ad):Prop:=FnI P w K mg base "read_calls" 3 ["calls"] (zgX A K)
theorem ziY (F:Fun K "read_calls" "read_calls" zey f fd) (T:Txt K mg A) (TD:TxtD P w K A) (zaW:ze3 P w K mg base A) (zbr:zpD P w K mg base A):FnOk P w K mg base CX0 3 f fd ["calls"] (zgX A K):=by
 have sc:FnScope ["calls","found","spot","place","names","numbers","rows","name","end"] ["calls"] (zbK zey):=fsc
 refine F.ok sc (by rintro _ _ _ _ ⟨a,rfl,_⟩;rfl) λcdv Ar outer s H vs Q E hr h=>?_
 obtain⟨a,rfl,h⟩:=h
 refine⟨_,(zbC (zbP (i:=1) sc.nd rfl (by first | exact Or.inl rfl | exact Or.inr rfl) (zbQ zbD)) (zbC (zbP (i:=2) sc.nd rfl (by first | exact Or.inl rfl | exact Or.inr rfl) zbN) (zbC (zlc PassesOwn.never (zbO zeY (pv 2) (zbT zcc (by rfl) T.n_len (by decide +kernel) (zbB (pv 0) zbD)) (zbR _)) (zbC (zbP (i:=3) sc.nd rfl (by first | exact Or.inl rfl | exact Or.inr rfl) (zfp zdL (pv 0) (pv 2) (λ_ _=>rfl))) (zbC (zbP (i:=4) sc.nd rfl (by first | exact Or.inl rfl | exact Or.inr rfl) (zfp zjY (zkA T.r_NUMBER_NAMES (by rfl)) (pv 3) (λ_ _=>rfl))) (zbC (zbP (i:=5) sc.nd rfl (by first | exact Or.inl rfl | exact Or.inr rfl) (zbH zaW (hr.mono (by decide)) (by rfl) (zbB (pv 0) (zbB (zb2 zcK (pv 2) zbN) (zbB (pv 4) zbD))))) (zbC (zbP (i:=2) sc.nd rfl (by first | exact Or.inl rfl | exact Or.inr rfl) (zb2 zcK (zb2 zcK (pv 2) zbN) (zbT zcc (by rfl) T.n_len (by decide +kernel) (zbB (pv 4) zbD)))) (zbC (zbP (i:=6) sc.nd rfl (by first | exact Or.inl rfl | exact Or.inr rfl) zlh) (zbC (zdv PassesOwn.never rfl (zqX (zos (zb8 hr) (zkA T.r_ROW_NAMES (by rfl)) (pv 3) (zpw zbD) ⟨rfl,rfl,rfl,rfl⟩)) (zbW (i:=7) sc.nd (by rfl) (by first | exact Or.inl rfl | exact Or.inr rfl) (by first | exact Or.inl rfl | exact Or.inr rfl)) (zbC (zbP (i:=8) sc.nd rfl (by first | exact Or.inl rfl | exact Or.inr rfl) (zb2 zcK (zb2 zcK (pv 2) zbN) (zfp zdL (pv 0) (pv 2) (λ_ _=>rfl)))) (zbC (zmX (zb8 hr) (pv 6) (pv 7) (zlg zmM (pv 0) (ziM (zb2 zcK (pv 2) zbN)) (ziM (pv 8))) rfl) (zbF (zbP (i:=2) sc.nd rfl (by first | exact Or.inl rfl | exact Or.inr rfl) (pv 8)))))) (zbF (zcf (zeF PySem.F.plainAttrs_list PySem.F.slot_list_append PySem.F.type_list_append zcX (pv 1) (zbB (zcI zbr (hr.mono (by decide)) (by rfl) (zbB (pv 3) (zbB (pv 5) (zbB (pv 6) zbD)))) zbD))))))))))) (zbF (zbJ (pv 1)))))),?_⟩
 obtain⟨l,cs,hl,hz,hcs,q⟩:=h
 refine⟨(by show 0≤sizeLine;decide),λD hD=>?_⟩
 have s0:Same H (upd H D (.lst [])):=Same.upd hD
 refine zkX (λσ H'=>∃k as dn rest o3 o4 o5 o6 o7 o8,σ=[some (.ref a),some (.ref D),some (.int (k:Nat)),o3,o4,o5,o6,o7,o8]∧ReadAt A l cs H H' D k as dn rest) (λσ _=>l.length - zqR σ) ?_ (λσ H' h=>?_) (λσ H Q Q' hq h=>?_)
 ·exact⟨0,[],[],cs,none,none,none,none,none,none,rfl,s0,zbG,AllAt.nil,Nat.zero_le _,Nat.le_refl _,by rw[List.drop_zero];exact hcs,rfl⟩
 ·obtain⟨k,as,dn,rest,o3,o4,o5,o6,o7,o8,rfl,R0⟩:=h
  have hS:=R0.same.seq hl
  refine⟨_,rfl,_,rfl,_,_,rfl,.inl ⟨_,hS,rfl⟩,_,_,rfl,rfl,_,rfl,?_⟩
  rw[List.length_map]
  refine zb9 (λh1=>?_) (λh1=>?_)
  ·have hk:k < l.length:=by have:=of_decide_eq_true h1;omega
   obtain⟨f,hf⟩:=R0.rst
   rw[zj6 hk] at hf
   obtain⟨f',c,t,rest',hc,hf',rfl⟩:=zmh hf
   obtain⟨n,kk,xs,hsh,hn,hrows,rfl⟩:=zlB hc
   obtain⟨i,hi,ei⟩:=ze9 hsh
   rw[ei] at hsh
   obtain⟨e1,e2,e3,e4,e5,e6,e7⟩:=ziA hi hsh
   have hkl:(l.map V.int)[k]? = some (.int l[k]):=by rw[List.getElem?_map,List.getElem?_eq_getElem hk];rfl
   refine⟨_,rfl,_,rfl,a,_,_,_,rfl,rfl,hS,zdi hkl,?_⟩
   obtain⟨na,hna,hnl,hnt⟩:=T.t_NUMBER_NAMES
   have hin:i < na.length:=by rw[hnl];exact (List.getElem?_eq_some_iff.mp e6).1
   have hni:na[i]? = some na[i]:=List.getElem?_eq_getElem hin
   have hnames:=hnt i na[i] _ hni e6
   refine⟨_,rfl,_,_,_,V.ref na[i],rfl,rfl,hna _,zrj ei (by rw[List.getElem?_map,hni];rfl),?_⟩
   have hrl:(l.drop (k + 1)).length=l.length - (k + 1):=List.length_drop ..
   refine⟨_,rfl,_,rfl,_,_,rfl,rfl,_,rfl,a,k + 1,na[i],rfl,l,namesOf (i:Int),hS,hnames,e3,by omega,by omega,λH1 d1 s1 hd1 h1'=>?_⟩
   refine⟨_,rfl,_,_,rfl,rfl,_,rfl,_,_,rfl,.inr ⟨_,hnames _,rfl⟩,_,_,rfl,rfl,?_⟩
   intro R hR
   have esp:((λi j=>V.int (i + j)) ((k:Int) + 1) (((namesOf (i:Int)).map V.str).length:Int))=V.int (((k + 1 + n:Nat)):Int):=by
    show V.int _=V.int _
    rw[List.length_map,e1]
    rfl
   have sR:Same H1 (upd H1 R (.dK [])):=Same.upd hR
   have hD1:H1 D=some (.lst (as.map V.ref)):=s1 _ _ R0.lst
   have hDR:D≠R:=zbI hD1 hR
   rw[esp]
   generalize hH2:(upd H1 R (.dK []))=H2 at sR ⊢
   have hR2:H2 R=some (.dK []):=by rw[←hH2];exact zbG
   obtain⟨rs,hrs,kd,hrt⟩:=TD.d_ROW_NAMES
   refine⟨A.a_ROW_NAMES,_,rfl,kd,_,rfl,(by show 0≤sizeLine;decide),λtt htt=>⟨.inl l[k],rfl,?_⟩⟩
   have sT:Same H2 (upd H2 tt (.tup [])):=Same.upd htt
   have hT3:(upd H2 tt (.tup [])) tt=some (.tup []):=zbG
   generalize (upd H2 tt (.tup []))=H3 at sT hT3 ⊢
   obtain⟨ta,eta,hta⟩:∃ta,(zhJ ((L_ROW_NAMES.zip rs).map λx=>((.inl x.1.1:Key),V.ref x.2)) (.inl l[k])).getD (V.ref tt)=V.ref ta∧∀H',H' tt=some (.tup [])→SqT K H' ta ((rowNames (i:Int)).map V.str):=by
    have vr:=zms (p:=l[k]) hrs
    have er:rowNames (i:Int)=(L_ROW_NAMES.lookup l[k]).getD []:=by rw[ei];rfl
    cases eL:L_ROW_NAMES.lookup l[k] with
    | none =>
     rw[eL] at vr er
     rw[vr,er]
     exact⟨tt,rfl,λH' h=>SqT.of h⟩
    | some ns =>
     rw[eL] at vr er
     obtain⟨q1,r1,h1,h2,h3⟩:=vr
     rw[h3,er]
     exact⟨r1,rfl,λH' _=>hrt q1 _ r1 h1 h2 H'⟩
   rw[eta]
   refine⟨ta,rfl,⟨_,hta _ hT3⟩,?_⟩
   have ern:((rowNames (i:Int)).map V.str).length=kk:=by rw[List.length_map,e2]
   refine zqd (K:=K) (xs:=(rowNames (i:Int)).map V.str) (λj σ H'=>∃sp ra dr o7 o8,σ=[some (.ref a),some (.ref D),some (.int (sp:Nat)),some (.int l[k]),some (.ref na[i]),some (.ref d1),some (.ref R),o7,o8]∧RowsAt H (k + 1 + n) l t (rowNames (i:Int)) xs H1 H' D R sp ra dr j∧H' tt=some (.tup [])) ?_ (λj σ H' _ h=>?_) (λj nmv σ H' hx h=>?_) (λσ H' h=>?_)
   ·refine⟨k + 1 + n,[],[],o7,o8,rfl,⟨sR.trans sT,?_,AllAt.nil,Nat.le_refl _,by omega,rfl,xs,?_,rfl⟩,hT3⟩
    ·rw[List.zip_nil_right];exact sT _ _ hR2
    ·rw[Nat.sub_zero,e2,←List.drop_drop]
     exact hrows
   ·obtain⟨sp,ra,dr,o7,o8,rfl,W,h3⟩:=h
    exact hta _ h3
   ·obtain⟨sp,ra,dr,o7,o8,rfl,W,hT'⟩:=h
    have era:ra.length=dr.length:=W.all.1
    have hS':SqL K H' a (l.map V.int):=((R0.same.trans s1).trans W.same).seq hl
    obtain⟨xr,hx1,hx2⟩:=W.rst
    rw[List.getElem?_map] at hx
    cases enm:(rowNames (i:Int))[j]? with
    | none=>rw[enm] at hx;cases hx
    | some nm =>
     rw[enm] at hx
     cases hx
     have hjl:j < (rowNames (i:Int)).length:=(List.getElem?_eq_some_iff.mp enm).1
     have ejr:ra.length=j:=era.trans W.len
     obtain⟨m,hm⟩:∃m,(rowNames (i:Int)).length - j=m + 1:=⟨(rowNames (i:Int)).length - j - 1,by omega⟩
     rw[hm] at hx1
     obtain⟨n2,r2,xs',el,hn2,hr2,hx1',rfl⟩:=zhc hx1
     have hsp:sp < l.length:=by
      rcases Nat.lt_or_ge sp l.length with z | z
      ·exact z
      ·rw[List.drop_eq_nil_of_le z] at el;cases el
     rw[zj6 hsp] at el
     have eln:l[sp]=n2:=(List.cons.inj el).1
     have elr:l.drop (sp + 1)=r2:=(List.cons.inj el).2
     subst eln elr
     have hr2':sp + 1 + l[sp].toNat≤l.length:=by rw[List.length_drop] at hr2;omega
     have hspl:(l.map V.int)[sp]? = some (.int l[sp]):=by rw[List.getElem?_map,List.getElem?_eq_getElem hsp];rfl
     refine⟨_,rfl,_,_,rfl,rfl,_,rfl,_,rfl,a,_,_,_,rfl,rfl,hS',zdi hspl,_,_,rfl,rfl,?_⟩
     have een:((λi j=>V.int (i + j)) ((sp:Int) + 1) l[sp])=V.int ((sp + 1 + l[sp].toNat:Nat):Int):=by
      show V.int _=V.int _
      congr 1
      omega
     rw[een]
     refine⟨_,rfl,_,rfl,_,_,rfl,rfl,_,rfl,_,rfl,_,rfl,a,_,rfl,hS',λp hp=>?_⟩
     have ecut:zmo (l.map V.int) (some ((sp:Int) + 1)) (some ((sp + 1 + l[sp].toNat:Nat):Int))=((l.drop (sp + 1)).take l[sp].toNat).map V.int:=by
      have:=zqj (l:=l) (lo:=sp + 1) (hi:=sp + 1 + l[sp].toNat) (by omega) hr2'
      rw[Nat.add_sub_cancel_left] at this
      exact this
     rw[ecut]
     generalize hx:(l.drop (sp + 1)).take l[sp].toNat=x at *
     have hDW:H' D=some (.lst (as.map V.ref)):=W.same _ _ hD1
     have npD:p≠D:=λz=>by rw[z,hDW] at hp;cases hp
     have npR:p≠R:=λz=>by rw[z,W.lst] at hp;cases hp
     have sp1:Same H' (upd H' p (.lst (x.map V.int))):=Same.upd hp
     have hlz:(zel ((rowNames (i:Int)).zip ra)).length < sizeLine:=by
      unfold zel
      rw[List.length_map,List.length_zip]
      exact Nat.lt_of_le_of_lt (Nat.min_le_left _ _) (zb0 (by omega))
     refine⟨_,rfl,_,rfl,R,_,rfl,DPut.k (k:=.inr nm) (sp1 _ _ W.lst) hlz,_,rfl,sp + 1 + l[sp].toNat,ra++[p],dr++[x],_,_,rfl,?_,?_⟩
     ·refine⟨λb o e=>?_,?_,?_,by have:=W.ge;omega,hr2',by rw[List.length_append,List.length_singleton,W.len],xs',?_,by rw[hx2,List.append_assoc];rfl⟩
      ·rw[zbL (zbI e hR)];exact sp1 _ _ (W.same _ _ e)
      ·have hnot:nm ∉ ((rowNames (i:Int)).zip ra).map (·.1):=by
        intro hm
        obtain⟨⟨p1,p2⟩,hp1,hp2⟩:=List.mem_map.mp hm
        obtain⟨q,hq⟩:=List.getElem?_of_mem hp1
        rw[List.getElem?_zip_eq_some] at hq
        have hp2:p1=nm:=hp2
        have:=zp5 e7 (hq.1.trans (congrArg some hp2)) enm
        have:=(List.getElem?_eq_some_iff.mp hq.2).1
        omega
       rw[zbG,zlb _ (zlK hnot),zkW (by rw[ejr];exact enm)]
       unfold zel
       rw[List.map_append]
       rfl
      ·rw[zj3 (List.mem_cons_of_mem _ (List.mem_cons_self ..))]
       exact (W.all.imp λb r h=>zfK (zge sp1) _ _ h).snoc (zcY (zeX zbG (((R0.same.trans s1).trans W.same).free hp)) (by
        intro z
        rcases List.mem_cons.mp z with z | z
        ·exact npD z
        ·exact npR (List.mem_singleton.mp z)))
      ·have em:(rowNames (i:Int)).length - (j + 1)=m:=by omega
       rw[em,←List.drop_drop]
       exact hx1'
     ·have ntR:tt≠R:=zeb hT' W.lst (by intro z;cases z)
      rw[zbL ntR];exact sp1 _ _ hT'
   ·obtain⟨sp,ra,dr,o7,o8,rfl,W,hT'⟩:=h
    ·obtain⟨xr,hx1,hx2⟩:=W.rst
     have hge:(rowNames (i:Int)).length - ((rowNames (i:Int)).map V.str).length=0:=by rw[List.length_map];omega
     rw[hge] at hx1
     have hx1:some (([]:List (List Int)),l.drop sp)=some (xr,t):=hx1
     have exr:xr=[]:=(congrArg Prod.fst (Option.some.inj hx1)).symm
     have et:l.drop sp=t:=congrArg Prod.snd (Option.some.inj hx1)
     rw[exr,List.append_nil] at hx2
     subst hx2
     have hDW:H' D=some (.lst (as.map V.ref)):=W.same _ _ hD1
     refine⟨_,rfl,.inl ⟨rfl,_,SqL.of hDW⟩,_,rfl,_,rfl,_,rfl,?_⟩
     intro x dx nx nd ne
     refine⟨x,l[k],d1,R,rfl,dx,zbG,rfl,?_⟩
     have s3:Same H' _:=zfI (C:=A.cCall) (o:=.ins A.cCall dx (zgK l[k] d1 R)) nx nd
     have hx3:(upd (upd (upd H' dx (.own x)) x (.ins A.cCall dx [])) x (.ins A.cCall dx (zgK l[k] d1 R))) x=some (.ins A.cCall dx (zgK l[k] d1 R)):=zbG
     generalize (upd (upd (upd H' dx (.own x)) x (.ins A.cCall dx [])) x (.ins A.cCall dx (zgK l[k] d1 R)))=H3 at s3 hx3 ⊢
     have hD3:=s3 _ _ hDW
     have nxD:x≠D:=λz=>by rw[z,hDW] at nx;cases nx
     have eas:as.length=dn.length:=by rw[R0.all.1,List.length_map]
     refine⟨D,_,_,rfl,rfl,hD3,?_,⟨sp,as++[x],dn++[(l[k]::(l.drop (k + 1)).take n)::xs],rest',_,_,_,_,_,_,rfl,?_⟩,?_⟩
     ·have:=R0.len
      rw[List.length_map,eas]
      exact Nat.lt_of_le_of_lt (show dn.length≤20000 by omega) (by decide)
     ·refine⟨λb o e=>?_,by rw[zbG,List.map_append];rfl,?_,W.le,?_,⟨f',by rw[et];exact hf'⟩,by rw[R0.eq,List.append_assoc];rfl⟩
      ·rw[zbL (zbI e hD)];exact s3 _ _ (W.same _ _ (s1 _ _ (R0.same _ _ e)))
      ·rw[zj3 (List.mem_singleton.mpr rfl),List.map_append]
       refine (R0.all.imp λb c h=>h.same (zfK (zge ((s1.trans W.same).trans s3)))).snoc ⟨dx,d1,R,ra,zcY (zeX hx3 (((R0.same.trans s1).trans W.same).free nx)) (λz=>nxD (List.mem_singleton.mp z)),?_,?_,?_⟩
       ·have e7:zdg ((namesOf l[k]).zip ((l.drop (k + 1)).take n))=zdg ((namesOf (i:Int)).zip (l.drop (k + 1))):=by
         rw[ei,zjl _ _ _ (Nat.le_of_eq e1)]
        have hd3:=s3 _ _ (W.same _ _ h1')
        refine zcY (zeX ?_ (R0.same.free hd1)) (λz=>?_)
        ·show H3 d1=some (.dK (zdg ((namesOf l[k]).zip ((l.drop (k + 1)).take n))))
         rw[e7];exact hd3
        ·rw[List.mem_singleton.mp z,hD3] at hd3;cases hd3
       ·show zeo [D] (fresh H H3) R=some (.dK (zel ((rowNames l[k]).zip ra)))
        rw[ei]
        exact zcY (zeX (s3 _ _ W.lst) ((R0.same.trans s1).free hR)) (λz=>hDR (List.mem_singleton.mp z).symm)
       ·exact W.all.imp λb r h=>zj1 (λc hc=>by rw[List.mem_singleton.mp hc];exact List.mem_cons_self ..) _ _ (zfK (zge s3) _ _ h)
      ·have:=R0.len
       have:=W.ge
       rw[List.length_append,List.length_singleton]
       omega
     ·have:=W.ge
      have:=W.le
      show l.length - (sp:Int).toNat < l.length - (k:Int).toNat
      omega
  ·have hk:k=l.length:=by
    have h2:¬((k:Int) < (l.length:Int)):=λz=>h1 (decide_eq_true z)
    have:=R0.le
    omega
   obtain⟨f,hf⟩:=R0.rst
   rw[hk,List.drop_length] at hf
   have hrest:=zj8 hf
   refine⟨_,rfl,q _ D R0.same hD ⟨as,zeX R0.lst hD,?_⟩⟩
   have ecs:=R0.eq
   rw[hrest,List.append_nil] at ecs
   rw[ecs]
   exact R0.all.imp λb c h=>h.same zdD
 ·obtain⟨v,e,u,e2,x,n,e3,hL,i,j,e4,e5,k,e6,h⟩:=h
  exact⟨v,e,u,e2,x,n,e3,hL,i,j,e4,e5,k,e6,hq _ _ h⟩
end
end Z
namespace Z
open PySem PySem.Spec PyProof.Rows L2
open Vbeman (Line Right House Bid)
structure CutOf (r x:Right):Prop where
 eq:x={ r with amount:=x.amount }
 pos:1≤x.amount
 le:x.amount≤r.amount
inductive CutL:List Right→List Right→Prop
 | nil:CutL [] []
 | drop {r:Right} {a b:List Right}:CutL a b→CutL (r::a) b
 | keep {r x:Right} {a b:List Right}:CutOf r x→CutL a b→CutL (r::a) (x::b)
theorem CutL.append:∀{a b c d:List Right},CutL a b→CutL c d→CutL (a++c) (b++d)
 | _,_,_,_,.nil,h=>h
 | _,_,_,_,.drop t,h=>.drop (t.append h)
 | _,_,_,_,.keep q t,h=>.keep q (t.append h)
theorem zgL (n:Nat) (ls:List Line):∀(l kept:List Right),(∀r∈l,1≤r.amount)→∃pre,Vbeman.trim n ls l kept=pre++kept∧CutL l.reverse pre
 | [],kept,_=>⟨[],rfl,.nil⟩
 | r::l,kept,h=>by
  have h1:∀r∈l,1≤r.amount:=λx hx=>h x (List.mem_cons_of_mem _ hx)
  have hr:=h r (List.mem_cons_self ..)
  unfold Vbeman.trim
  rw[List.reverse_cons]
  split
  ·obtain⟨pre,e,c⟩:=zgL n ls l (r::kept) h1
   exact⟨pre++[r],by rw[e,List.append_assoc];rfl,c.append (.keep ⟨rfl,hr,Int.le_refl _⟩ .nil)⟩
  ·dsimp only
   split
   ·obtain⟨pre,e,c⟩:=zgL n ls l kept h1
    exact⟨pre++[],by rw[e,List.append_nil],c.append (.drop .nil)⟩
   ·rename_i hq
    obtain⟨pre,e,c⟩:=zgL n ls l ({ r with amount:=min r.amount (Vbeman.mostFor n ls (l.reverse++kept) r.source r.sink) }::kept) h1
    exact⟨pre++[_],by rw[e,List.append_assoc];rfl,c.append (.keep ⟨rfl,by show 1≤min _ _;omega,Int.min_le_left _ _⟩ .nil)⟩
theorem CutL.nums:∀{a b:List Right},CutL a b→(ze1 b).Sublist (ze1 a)
 | _,_,.nil=>List.Sublist.refl _
 | _,_,.drop t=>List.Sublist.cons _ t.nums
 | _,_,.keep (r:=r) (x:=x) q t=>by
  have e:x.number=r.number:=by rw[q.eq]
  show (x.number::ze1 _).Sublist (r.number::ze1 _)
  rw[e]
  exact List.Sublist.cons₂ _ t.nums
theorem CutL.mem:∀{a b:List Right},CutL a b→∀x∈b,∃r∈a,CutOf r x
 | _,_,.nil,x,h=>(List.not_mem_nil h).elim
 | _,_,.drop t,x,h=>let ⟨r,h1,h2⟩:=t.mem x h;⟨r,List.mem_cons_of_mem _ h1,h2⟩
 | _,_,.keep q t,x,h=>by
  rcases List.mem_cons.mp h with rfl | h
  ·exact⟨_,List.mem_cons_self ..,q⟩
  ·obtain⟨r,h1,h2⟩:=t.mem x h
   exact⟨r,List.mem_cons_of_mem _ h1,h2⟩
theorem CutL.len:∀{a b:List Right},CutL a b→b.length≤a.length
 | _,_,.nil=>Nat.le_refl _
 | _,_,.drop t=>Nat.le_succ_of_le t.len
 | _,_,.keep _ t=>Nat.succ_le_succ t.len
theorem CutL.find {a b:List Right} (c:CutL a b) (hn:(ze1 a).Nodup) {r x:Right} (hr:r∈a) (hx:b.find? (λy=>y.number == r.number)=some x):CutOf r x:=by
 have h1:=List.mem_of_find?_eq_some hx
 have h2:x.number=r.number:=by have:=List.find?_some hx;simpa using this
 obtain⟨r',hr',q⟩:=c.mem x h1
 have e:r'.number=r.number:=by rw[←h2,q.eq]
 have:r'=r:=by
  obtain⟨i,hi⟩:=List.getElem?_of_mem hr'
  obtain⟨j,hj⟩:=List.getElem?_of_mem hr
  have:=zp5 hn (i:=i) (j:=j) (x:=r.number) (by unfold ze1;rw[List.getElem?_map,hi];exact congrArg some e) (by unfold ze1;rw[List.getElem?_map,hj];rfl)
  subst this
  exact Option.some.inj (hi.symm.trans hj)
 rw[←this];exact q
def zc0 (b:List Right) (r:Right):List Int:=match b.find? λx=>x.number == r.number with
 | some x=>if x.amount=r.amount then [] else [(r.number:Int),x.amount]
 | none=>[(r.number:Int),0]
theorem zqi (a b:List Right):((a.filterMap λr=>match b.find? λx=>x.number == r.number with
     | some x=>if x.amount=r.amount then none else some (r.number,x.amount)
     | none=>some (r.number,0)).flatMap λc=>[(c.1:Int),c.2])=a.flatMap (zc0 b):=by
 induction a with
 | nil=>rfl
 | cons r a ih =>
  rw[List.flatMap_cons,←ih]
  unfold zc0
  cases e:b.find? λx=>x.number == r.number with
  | none=>rw[List.filterMap_cons_some (b:=(r.number,0)) (by rw[e])];rfl
  | some x =>
   by_cases h:x.amount=r.amount
   ·rw[List.filterMap_cons_none (by rw[e];exact if_pos h)]
    show _=(if x.amount=r.amount then [] else _)++_
    rw[if_pos h];rfl
   ·rw[List.filterMap_cons_some (b:=(r.number,x.amount)) (by rw[e];exact if_neg h)]
    show _=(if x.amount=r.amount then [] else _)++_
    rw[if_neg h];rfl
section
variable {P : Program} {w : World} {K : PySem.W.Frag} {mg : Str → Option Value} {base : Heap} {A : Ad} {f : Addr} {fd : FuncData}
def zgW (A:Ad):Sp:=λvs H Q _=>∃(l1 l2:Addr),vs=[.ref l1,.ref l2]∧∃a b:List Right,RightsAt A H l1 a∧RightsAt A H l2 b∧a.length≤1000∧(∀r∈a,1≤r.amount)∧(∀r∈a,∀x,b.find? (λy=>y.number == r.number)=some x→x.amount≤r.amount) ∧
 ∀H' p,Same H H'→H p=none→H' p=some (.lst ((a.flatMap (zc0 b)).map V.int))→Q (.ref p) H'
theorem zik (b:List Right) (r:Right):(zc0 b r).length≤2:=by
 unfold zc0
 split
 ·split
  ·exact Nat.zero_le _
  ·exact Nat.le_refl _
 ·exact Nat.le_refl _
theorem zi9 {α β:Type} (f:α→List β) (m:Nat) (h:∀x,(f x).length≤m):∀l:List α,(l.flatMap f).length≤m * l.length
 | []=>Nat.zero_le _
 | x::l=>by
  rw[List.flatMap_cons,List.length_append,List.length_cons,Nat.mul_succ]
  have:=zi9 f m h l
  have:=h x
  omega
abbrev zdZ:=top 67
abbrev zfS (P:Program) (w:World) (K:PySem.W.Frag) (mg:Str→Option Value) (base:Heap) (A:Ad):Prop:=FnI P w K mg base "row_of_cuts" 2 ["before","behind"] (zgW A)
theorem zhP (F:Fun K "row_of_cuts" "row_of_cuts" zdZ f fd) (T:Txt K mg A) (zax:zb1 P w K mg base A):FnOk P w K mg base CX0 2 f fd ["before","behind"] (zgW A):=by
 have sc:FnScope ["before","behind","row","right","now","left"] ["before","behind"] (zbK zdZ):=fsc
 refine F.ok sc (by rintro _ _ _ _ ⟨l1,l2,rfl,_⟩;rfl) λcdv Ar outer s H vs Q E hr h=>?_
 obtain⟨l1,l2,rfl,h⟩:=h
 refine⟨_,(zbC (zbP (i:=2) sc.nd rfl (by first | exact Or.inl rfl | exact Or.inr rfl) (zbQ zbD)) (zbC (zdv PassesOwn.never rfl (zcD (pv 0)) (zbW (i:=3) sc.nd (by rfl) (by first | exact Or.inl rfl | exact Or.inr rfl) (by first | exact Or.inl rfl | exact Or.inr rfl)) (zbC (zbP (i:=4) sc.nd rfl (by first | exact Or.inl rfl | exact Or.inr rfl) (zbH zax (hr.mono (by decide)) (by rfl) (zbB (pv 1) (zbB (zbE (pv 3) rfl) zbD)))) (zbC (zbP (i:=5) sc.nd rfl (by first | exact Or.inl rfl | exact Or.inr rfl) (ziN (zdu (zdB (pv 4))) zbN (zbE (pv 4) rfl))) (zbF (zbU (zbO zeY (pv 5) (zbE (pv 3) rfl) (zbR _)) (zbF (zcf (zeF PySem.F.plainAttrs_list PySem.F.slot_list_extend PySem.F.type_list_extend zdx (pv 2) (zbB (zbQ (zbB (zbE (pv 3) rfl) (zbB (pv 5) zbD))) zbD)))) zbM))))) (zbF (zbJ (pv 2))))),?_⟩
 obtain⟨a,b,⟨as,ha,hA⟩,hb,hz,hpos,hle,q⟩:=h
 refine⟨(by show 0≤sizeLine;decide),λD hD=>?_⟩
 refine⟨_,rfl,?_⟩
 refine⟨l1,rfl,⟨_,SqL.of (Same.upd hD _ _ ha)⟩,?_⟩
 refine zcR (K:=K) (xs:=as.map V.ref) (λi σ H'=>(∃o3 o4 o5,σ=[some (.ref l1),some (.ref l2),some (.ref D),o3,o4,o5])∧Same H H'∧H' D=some (.lst (((a.take i).flatMap (zc0 b)).map V.int))) ⟨⟨none,none,none,rfl⟩,Same.upd hD,zbG⟩ (λi σ H' _ h=>SqL.of (h.2.1 _ _ ha)) (λi x σ H' hx h=>?_) (λσ H' h=>?_)
 ·obtain⟨⟨o3,o4,o5,rfl⟩,s1,h1⟩:=h
  obtain⟨p,r,rfl,hr',hR0⟩:=hA.get hx
  obtain⟨dx,hR⟩:=hR0.same s1
  have es:(a.take (i + 1)).flatMap (zc0 b)=(a.take i).flatMap (zc0 b)++zc0 b r:=by
   rw[L2.zb4 hr',List.flatMap_append,List.flatMap_singleton]
  have hmem:=List.mem_of_getElem? hr'
  have hlen:(((a.take i).flatMap (zc0 b)).map V.int).length≤2000:=by
   have h2:=zi9 (zc0 b) 2 (zik b) (a.take i)
   rw[List.length_take] at h2
   rw[List.length_map]
   omega
  refine⟨_,rfl,⟨_,rfl,gR T hR rfl ?_⟩⟩
  refine zci T (hb.same s1) λv hv=>?_
  refine⟨_,rfl,?_⟩
  cases e:b.find? λx=>x.number == r.number with
  | none =>
   rw[e] at hv
   have hv:v=.non:=hv
   subst hv
   have ec:zc0 b r=[(r.number:Int),0]:=by unfold zc0;rw[e]
   rw[ec] at es
   refine⟨_,rfl,zgc ?_⟩
   refine⟨_,rfl,⟨_,rfl,gR T hR rfl ⟨_,_,rfl,rfl,⟨_,rfl,?_⟩⟩⟩⟩
   have:=hpos r hmem
   refine zb9 (λ_=>?_) (λz=>absurd (decide_eq_true (show (0:Int) < r.amount by omega)) z)
   refine⟨_,rfl,.inl ⟨rfl,_,SqL.of h1⟩,?_⟩
   refine⟨_,rfl,gR T hR rfl ⟨_,rfl,?_⟩⟩
   refine⟨(by show 2≤sizeLine;decide),λp2 hp2=>?_⟩
   refine⟨D,p2,_,_,rfl,rfl,Same.upd hp2 _ _ h1,zbG,?_,⟨_,_,_,rfl⟩,λc o e=>?_,?_⟩
   ·exact Nat.le_trans (Nat.add_le_add_right hlen 2) (by decide)
   ·rw[zbL (zbI e hD)];exact Same.upd hp2 _ _ (s1 _ _ e)
   ·rw[zbG,es,List.map_append];rfl
  | some x =>
   rw[e] at hv
   obtain⟨c,rfl,dc,hc⟩:=hv
   have ec:zc0 b r=(if x.amount=r.amount then [] else [(r.number:Int),x.amount]):=by unfold zc0;rw[e]
   rw[ec] at es
   have hxle:=hle r hmem x e
   refine⟨_,rfl,zi7 ?_⟩
   refine⟨_,rfl,gR T hc rfl ⟨_,rfl,⟨_,rfl,gR T hR rfl ⟨_,_,rfl,rfl,⟨_,rfl,zb9 (λh2=>?_) (λh2=>?_)⟩⟩⟩⟩⟩
   ·have h3:=of_decide_eq_true h2
    rw[if_neg (by omega)] at es
    refine⟨_,rfl,.inl ⟨rfl,_,SqL.of h1⟩,?_⟩
    refine⟨_,rfl,gR T hR rfl ⟨_,rfl,?_⟩⟩
    refine⟨(by show 2≤sizeLine;decide),λp2 hp2=>?_⟩
    refine⟨D,p2,_,_,rfl,rfl,Same.upd hp2 _ _ h1,zbG,?_,⟨_,_,_,rfl⟩,λc o e=>?_,?_⟩
    ·exact Nat.le_trans (Nat.add_le_add_right hlen 2) (by decide)
    ·rw[zbL (zbI e hD)];exact Same.upd hp2 _ _ (s1 _ _ e)
    ·rw[zbG,es,List.map_append];rfl
   ·have h3:¬(x.amount < r.amount):=λz=>h2 (decide_eq_true z)
    rw[if_pos (by omega),List.append_nil] at es
    exact⟨⟨_,_,_,rfl⟩,s1,by rw[es];exact h1⟩
 ·obtain⟨⟨o3,o4,o5,rfl⟩,s1,h1⟩:=h
  rw[List.length_map,hA.1,List.take_length] at h1
  refine⟨_,rfl,?_⟩
  exact q _ D s1 hD h1
end
end Z
namespace Z
open PySem PySem.Spec PyProof.Rows L2
open Vbeman (Line Right House Bid)
def zbY (S:House) (ll lr lb bl:Addr):List (Str×V):=[("zones",.int S.zones),("lines",.ref ll),("rights",.ref lr),("bids",.ref lb),("next_number",.int S.nextRight),("next_bid_number",.int S.nextBid),("balances",.ref bl),("till",.int S.till),("sales",.int S.sales),("cash",.int S.cash)]
def zea (n:Nat):House:=⟨n,[],[],[],1,1,List.replicate 8 0,0,0,0⟩
def Prc (p:Int):Prop:=-1000000≤p∧p≤1000000
def Amt (q:Int):Prop:=1≤q∧q≤1000000000
def zrq (z nx:Nat) (b:Bid):Prop:=(b.source < z∧b.sink < z∧b.source≠b.sink)∧b.owner < 8∧b.number < nx∧Amt b.left∧Prc b.price
structure BidsOk (z nx:Nat) (l:List Bid):Prop where
 len:l.length≤10
 all:∀b∈l,zrq z nx b
 nd:(zeg l).Nodup
structure Good (S:House):Prop where
 z2:2≤S.zones
 z6:S.zones≤6
 ll:S.lines.length≤10
 rl:S.rights.length≤30
 lo:∀l∈S.lines,l.a < S.zones∧l.b < S.zones
 ro:∀r∈S.rights,zrt S.zones r∧r.owner < 8∧r.number < S.nextRight∧r.amount≤1000000000
 nd:(ze1 S.rights).Nodup
 bl:S.balances.length=8
 nb:BidsOk S.zones S.nextBid S.bids
structure HouseAt (A:Ad) (H:Hp) (h dx ll lr lb bl:Addr) (S:House):Prop where
 obj:H h=some (.ins A.cHouse dx (zbY S ll lr lb bl))
 la:LinesAt A H ll S.lines
 ra:RightsAt A H lr S.rights
 ba:BidsAt A H lb S.bids
 bal:H bl=some (.lst (S.balances.map V.int))
 d1:ll≠lr
 d2:ll≠bl
 d3:lr≠bl
 d4:lb≠bl
 d5:ll≠lb
 good:Good S
section
variable {P : Program} {w : World} {K : PySem.W.Frag} {mg : Str → Option Value} {base : Heap} {A : Ad} {f : Addr} {fd : FuncData}
theorem HouseAt.same {H H':Hp} {h dx ll lr lb bl:Addr} {S:House} (x:HouseAt A H h dx ll lr lb bl S) (s:Same H H'):HouseAt A H' h dx ll lr lb bl S :=
 ⟨s _ _ x.obj,x.la.same s,x.ra.same s,x.ba.same s,s _ _ x.bal,x.d1,x.d2,x.d3,x.d4,x.d5,x.good⟩
theorem Good.okR {S:House} (g:Good S):∀r∈S.rights,OkR r:=λr hr=>⟨Nat.lt_of_lt_of_le (g.ro r hr).1.1 g.z6,Nat.lt_of_lt_of_le (g.ro r hr).1.2.1 g.z6⟩
theorem Good.okL {S:House} (g:Good S):∀l∈S.lines,OkL l:=λl hl=>⟨Nat.lt_of_lt_of_le (g.lo l hl).1 g.z6,Nat.lt_of_lt_of_le (g.lo l hl).2 g.z6⟩
theorem HouseAt.net {H:Hp} {h dx ll lr lb bl:Addr} {S:House} (x:HouseAt A H h dx ll lr lb bl S):NetAt A H ll lr S.lines S.rights :=
 ⟨x.la,x.ra,x.good.okL,x.good.okR,by have:=x.good.ll;omega,by have:=x.good.rl;omega⟩
theorem zno (p q:Int):(if p > 0 then p else 0) * q=max 0 p * q:=by
 congr 1
 rw[Int.max_def]
 split <;> split <;> omega
def zpo:Sp:=λvs H Q _=>∃(p q:Int),vs=[.int p,.int q]∧Amt q∧Q (.int (max 0 p * q)) H
abbrev zg9:=top 12
abbrev zhG (P:Program) (w:World) (K:PySem.W.Frag) (mg:Str→Option Value) (base:Heap) (A:Ad):Prop:=FnI P w K mg base "cost_at" 1 ["price","amount"] (zpo)
theorem zl3 (F:Fun K "cost_at" "cost_at" zg9 f fd) (T:Txt K mg A):FnOk P w K mg base CX0 1 f fd ["price","amount"] (zpo):=by
 have sc:FnScope ["price","amount"] ["price","amount"] (zbK zg9):=fsc
 refine F.ok sc (by rintro _ _ _ _ ⟨p,am,rfl,_⟩;rfl) λcdv Ar outer s H vs Q E hr h=>?_
 obtain⟨p,am,rfl,h⟩:=h
 refine⟨_,(zbF (zbJ (zb2 zgr (zbT (zdQ rfl) (by rfl) T.n_max (by decide +kernel) (zbB zbN (zbB (pv 0) zbD))) (pv 1)))),?_⟩
 obtain⟨ham,q⟩:=h
 refine⟨_,rfl,_,_,rfl,_,rfl,_,_,rfl,rfl,.inr ⟨by have:=ham.1;omega,by have:=ham.2;omega⟩,?_⟩
 rw[←zno] at q
 exact q
def zpl (A:Ad):Sp:=λvs H Q _=>∃(a:Addr),vs=[.ref a]∧∃b:Bid,BidAt A H a b∧Amt b.left∧Q (.int (Vbeman.heldFor b)) H
abbrev zfZ:=top 13
abbrev zgk (P:Program) (w:World) (K:PySem.W.Frag) (mg:Str→Option Value) (base:Heap) (A:Ad):Prop:=FnI P w K mg base "held_for" 2 ["bid"] (zpl A)
theorem zkD (F:Fun K "held_for" "held_for" zfZ f fd) (T:Txt K mg A) (zar:zhG P w K mg base A):FnOk P w K mg base CX0 2 f fd ["bid"] (zpl A):=by
 have sc:FnScope ["bid"] ["bid"] (zbK zfZ):=fsc
 refine F.ok sc (by rintro _ _ _ _ ⟨a,rfl,_⟩;rfl) λcdv Ar outer s H vs Q E hr h=>?_
 obtain⟨a,rfl,h⟩:=h
 refine⟨_,(zbF (zbJ (zbH zar (hr.mono (by decide)) (by rfl) (zbB (zbE (pv 0) rfl) (zbB (zbE (pv 0) rfl) zbD))))),?_⟩
 obtain⟨b,⟨dx,hB⟩,ham,q⟩:=h
 refine⟨_,rfl,gB T hB rfl ⟨_,rfl,gB T hB rfl ?_⟩⟩
 exact⟨_,_,rfl,ham,q⟩
def zg0:Sp:=λvs H Q _=>∃(a:Addr),vs=[.ref a]∧∃row:List Int,H a=some (.lst (row.map V.int))∧row.length≤1000∧∀H' p,Same H H'→H p=none→H' p=some (.lst ((Vbeman.row row).map V.int))→Q (.ref p) H'
abbrev zg8:=top 44
abbrev zdS (P:Program) (w:World) (K:PySem.W.Frag) (mg:Str→Option Value) (base:Heap) (A:Ad):Prop:=FnI P w K mg base "counted" 1 ["row"] (zg0)
theorem zl2 (F:Fun K "counted" "counted" zg8 f fd) (T:Txt K mg A):FnOk P w K mg base CX0 1 f fd ["row"] (zg0):=by
 have sc:FnScope ["row"] ["row"] (zbK zg8):=fsc
 refine F.ok sc (by rintro _ _ _ _ ⟨a,rfl,_⟩;rfl) λcdv Ar outer s H vs Q E hr h=>?_
 obtain⟨a,rfl,h⟩:=h
 refine⟨_,(zbF (zbJ (zb2 zdw (zbQ (zbB (zbT zcc (by rfl) T.n_len (by decide +kernel) (zbB (pv 0) zbD)) zbD)) (pv 0)))),?_⟩
 obtain⟨row,ha,hz,q⟩:=h
 refine⟨_,rfl,?_⟩
 refine⟨_,_,rfl,.inl ⟨_,SqL.of ha,rfl⟩,(by show 1≤sizeLine;decide),λp hp=>?_⟩
 have s1:Same H (upd H p (.lst [V.int ((row.map V.int).length:Nat)])):=Same.upd hp
 have h1:(upd H p (.lst [V.int ((row.map V.int).length:Nat)])) p=some (.lst [V.int ((row.map V.int).length:Nat)]):=zbG
 generalize (upd H p (.lst [V.int ((row.map V.int).length:Nat)]))=H1 at s1 h1 ⊢
 refine⟨_,rfl,?_⟩
 refine⟨p,a,_,_,rfl,rfl,h1,s1 _ _ ha,?_,λp2 hp2=>?_⟩
 ·show 1 + (row.map V.int).length≤sizeLine
  rw[List.length_map];exact Nat.le_trans (show 1 + row.length≤2000 by omega) (by decide)
 ·refine q _ p2 (s1.trans (Same.upd hp2)) (s1.free hp2) ?_
  rw[zbG,List.length_map]
  rfl
theorem isI {a b:Int} (h:decide (V.int a=V.int b)=true):a=b:=by injection (of_decide_eq_true h)
theorem zih {a b:Int} (h:¬decide (V.int a=V.int b)=true):a≠b:=λz=>h (decide_eq_true (by rw[z]))
theorem zdc {H:Hp} {d:Addr} {nums:List (Str×Int)} {x:Str} {v:V} (hd:H d=some (.dK (zdg nums))) (hv:zhJ (zdg nums) (.inr x)=some v:=by rfl):DGet H d (.str x) (some v):=by
 rw[←hv]
 exact DGet.k (k:=.inr x) hd
abbrev zit (h ll lr lb bl:Addr) (H:Hp) (ll' lr' lb' bl':Addr) (H':Hp):Prop:=Same (zeo [h,ll,lr,lb,bl] H) (zeo [h,ll',lr',lb',bl'] H')
theorem zcd {h ll lr lb bl:Addr} {H H':Hp} (s:Same H H'):zit h ll lr lb bl H ll lr lb bl H':=zfK s
def zlD (A:Ad) (h ll lr lb bl:Addr) (H:Hp) (S':House) (ans:List Int) (Q:VK):Prop :=
 ∀H' p dx' ll' lr' lb' bl',HouseAt A H' h dx' ll' lr' lb' bl' S'→zit h ll lr lb bl H ll' lr' lb' bl' H'→zeo [h,ll,lr,lb,bl] H p=none→ans.length≤1000→H' p=some (.lst (ans.map V.int))→Q (.ref p) H'
theorem zeL {S S':List Addr} {H H1:Hp} {p:Addr} (s:Same (zeo S H) (zeo S' H1)) (hp:H1 p=none):zeo S H p=none:=by
 cases e:zeo S H p with
 | none=>rfl
 | some o =>
  rw[(zcS (s _ _ e)).2] at hp
  cases hp
theorem zcZ {H H1:Hp} {h dx ll lr lb bl ll1 lr1 lb1 bl1:Addr} {S':House} {ans:List Int} {Q:VK} {xs:List V} (q:zlD A h ll lr lb bl H S' ans Q)
  (hH:HouseAt A H1 h dx ll1 lr1 lb1 bl1 S') (s:zit h ll lr lb bl H ll1 lr1 lb1 bl1 H1) (hx:xs=ans.map V.int) (hz:Nat.ble xs.length 1000=true:=by rfl):xs.length≤sizeLine∧∀p,H1 p=none→Q (.ref p) (upd H1 p (.lst xs)):=by
 refine⟨Nat.le_of_lt (zb0 (Nat.le_of_ble_eq_true hz)),λp hp=>?_⟩
 have s1:Same H1 (L2.upd H1 p (.lst xs)):=Same.upd hp
 exact q _ p dx ll1 lr1 lb1 bl1 (hH.same s1) (s.trans (zcd s1)) (zeL s hp) (by rw[hx,List.length_map] at hz;exact Nat.le_of_ble_eq_true hz) (by rw[zbG,hx])
structure Beg (A:Ad) (H Hc:Hp) (h dx:Addr) (fs:List (Str×V)) (ls:List Addr):Prop where
 obj:Hc h=some (.ins A.cHouse dx fs)
 lst:∀a∈ls,Hc a=some (.lst [])∧H a=none∧a≠h
 nd:ls.Nodup
 keep:∀b o,H b=some o→b≠h→Hc b=some o
theorem Beg.store {H Hc:Hp} {h dx:Addr} {fs fs':List (Str×V)} {ls:List Addr} (B:Beg A H Hc h dx fs ls):Beg A H (upd Hc h (.ins A.cHouse dx fs')) h dx fs' ls :=
 ⟨zbG,λa ha=>⟨by rw[zbL (B.lst a ha).2.2];exact (B.lst a ha).1,(B.lst a ha).2⟩,B.nd,λb o e n=>by rw[zbL n];exact B.keep b o e n⟩
theorem Beg.fresh {H Hc:Hp} {h dx a:Addr} {fs:List (Str×V)} {ls:List Addr} (B:Beg A H Hc h dx fs ls) (ha:Hc a=none):H a=none∧a≠h∧a ∉ ls:=by
 have n1:a≠h:=λz=>by rw[z,B.obj] at ha;cases ha
 refine⟨?_,n1,λz=>by rw[(B.lst a z).1] at ha;cases ha⟩
 cases e:H a with
 | none=>rfl
 | some o=>rw[B.keep a o e n1] at ha;cases ha
theorem Beg.other {H Hc:Hp} {h dx a:Addr} {fs:List (Str×V)} {ls:List Addr} {o:HO} (B:Beg A H Hc h dx fs ls) (ha:Hc a=none):Beg A H (upd Hc a o) h dx fs ls:=by
 obtain⟨f1,f2,f3⟩:=B.fresh ha
 exact⟨by rw[zbL (Ne.symm f2)];exact B.obj,λb hb=>⟨by rw[zbL (λz=>f3 (by rw[←z];exact hb))];exact (B.lst b hb).1,(B.lst b hb).2⟩,B.nd,λb u e n=>by rw[zbL (zbI (B.keep b u e n) ha)];exact B.keep b u e n⟩
theorem Beg.list {H Hc:Hp} {h dx a:Addr} {fs:List (Str×V)} {ls:List Addr} (B:Beg A H Hc h dx fs ls) (ha:Hc a=none):Beg A H (upd Hc a (.lst [])) h dx fs (a::ls):=by
 obtain⟨f1,f2,f3⟩:=B.fresh ha
 have B2:=B.other (o:=.lst []) ha
 refine⟨B2.obj,λb hb=>?_,List.nodup_cons.mpr ⟨f3,B.nd⟩,B2.keep⟩
 rcases List.mem_cons.mp hb with rfl | hb
 ·exact⟨zbG,f1,f2⟩
 ·exact B2.lst b hb
def zmL (A:Ad):Sp:=λvs H Q _=>∃(h:Addr) (n:Nat),vs=[.ref h,.int n]∧∃dx fs,H h=some (.ins A.cHouse dx fs)∧(fs=[]∨∃S ll lr lb bl,fs=zbY S ll lr lb bl) ∧
 ∀H' ll lr lb bl,H bl=none→bl≠h→bl ∉ [lb,lr,ll]→Beg A H H' h dx (zbY (zea n) ll lr lb bl) [lb,lr,ll]→H' bl=some (.lst ((List.replicate 8 (0:Int)).map V.int))→Q .non H'
abbrev zd5:=zdy (top 11) 1
abbrev zef (P:Program) (w:World) (K:PySem.W.Frag) (mg:Str→Option Value) (base:Heap) (A:Ad):Prop:=MtI P w K mg base A.cHouse "begin" 1 ["self","zones"] (zmL A)
theorem zhV (F:Fun K "begin" "House.begin" zd5 f fd) (T:Txt K mg A):FnOk P w K mg base CX0 1 f fd ["self","zones"] (zmL A):=by
 have sc:FnScope ["self","zones"] ["self","zones"] (zbK zd5):=fsc
 refine F.ok sc (by rintro _ _ _ _ ⟨h,n,rfl,_⟩;rfl) λcdv Ar outer s H vs Q E hr h=>?_
 obtain⟨h,n,rfl,h⟩:=h
 refine⟨_,(zbC (zbX (pv 0) (pv 1) rfl) (zbC (zbX (pv 0) (zbQ zbD) rfl) (zbC (zbX (pv 0) (zbQ zbD) rfl) (zbC (zbX (pv 0) (zbQ zbD) rfl) (zbC (zbX (pv 0) zbN rfl) (zbC (zbX (pv 0) zbN rfl) (zbC (zbX (pv 0) (zb2 zq0 (zbQ (zbB zbN zbD)) (zb6 T.i_OWNER_COUNT (by rfl))) rfl) (zbC (zbX (pv 0) zbN rfl) (zbC (zbX (pv 0) zbN rfl) (zbF (zbX (pv 0) zbN rfl))))))))))),?_⟩
 obtain⟨dx,fs,hh,hfs,q⟩:=h
 have hl0:fs.length≤100:=by
  rcases hfs with rfl | ⟨S,ll,lr,lb,bl,rfl⟩
  ·decide
  ·show 10≤100;decide
 have B0:Beg A H H h dx fs []:=⟨hh,λa ha=>(List.not_mem_nil ha).elim,List.nodup_nil,λb o e _=>e⟩
 refine⟨_,rfl,_,rfl,h,_,dx,fs,rfl,hh,T.clH,T.naH _ (by decide),by omega,?_⟩
 have hl1:=zcj "zones" (.int n) fs
 generalize e1:zdO "zones" (.int n) fs=fs1 at hl1 ⊢
 have B1:=B0.store (fs':=fs1)
 generalize (upd H h (.ins A.cHouse dx fs1))=H1 at B1 ⊢
 refine⟨(by show 0≤sizeLine;decide),λll hll=>?_⟩
 have B1:=B1.list hll
 generalize (upd H1 ll (.lst []))=H1' at B1 ⊢
 refine⟨_,rfl,h,_,dx,fs1,rfl,B1.obj,T.clH,T.naH _ (by decide),by omega,?_⟩
 have hl2:=zcj "lines" (.ref ll) fs1
 generalize e2:zdO "lines" (.ref ll) fs1=fs2 at hl2 ⊢
 have B2:=B1.store (fs':=fs2)
 generalize (upd H1' h (.ins A.cHouse dx fs2))=H2 at B2 ⊢
 refine⟨(by show 0≤sizeLine;decide),λlr hlr=>?_⟩
 have B2:=B2.list hlr
 generalize (upd H2 lr (.lst []))=H2' at B2 ⊢
 refine⟨_,rfl,h,_,dx,fs2,rfl,B2.obj,T.clH,T.naH _ (by decide),by omega,?_⟩
 have hl3:=zcj "rights" (.ref lr) fs2
 generalize e3:zdO "rights" (.ref lr) fs2=fs3 at hl3 ⊢
 have B3:=B2.store (fs':=fs3)
 generalize (upd H2' h (.ins A.cHouse dx fs3))=H3 at B3 ⊢
 refine⟨(by show 0≤sizeLine;decide),λlb hlb=>?_⟩
 have B3:=B3.list hlb
 generalize (upd H3 lb (.lst []))=H3' at B3 ⊢
 refine⟨_,rfl,h,_,dx,fs3,rfl,B3.obj,T.clH,T.naH _ (by decide),by omega,?_⟩
 have hl4:=zcj "bids" (.ref lb) fs3
 generalize e4:zdO "bids" (.ref lb) fs3=fs4 at hl4 ⊢
 have B4:=B3.store (fs':=fs4)
 generalize (upd H3' h (.ins A.cHouse dx fs4))=H4 at B4 ⊢
 refine⟨_,rfl,h,_,dx,fs4,rfl,B4.obj,T.clH,T.naH _ (by decide),by omega,?_⟩
 have hl5:=zcj "next_number" (.int 1) fs4
 generalize e5:zdO "next_number" (.int 1) fs4=fs5 at hl5 ⊢
 have B5:=B4.store (fs':=fs5)
 generalize (upd H4 h (.ins A.cHouse dx fs5))=H5 at B5 ⊢
 refine⟨_,rfl,h,_,dx,fs5,rfl,B5.obj,T.clH,T.naH _ (by decide),by omega,?_⟩
 have hl6:=zcj "next_bid_number" (.int 1) fs5
 generalize e6:zdO "next_bid_number" (.int 1) fs5=fs6 at hl6 ⊢
 have B6:=B5.store (fs':=fs6)
 generalize (upd H5 h (.ins A.cHouse dx fs6))=H6 at B6 ⊢
 refine⟨(by show 1≤sizeLine;decide),λb0 hb0=>?_⟩
 have hb1:(upd H6 b0 (.lst [V.int 0])) b0=some (.lst [V.int 0]):=zbG
 have B6:=B6.other (o:=.lst [V.int 0]) hb0
 generalize (upd H6 b0 (.lst [V.int 0]))=H6' at B6 hb1 ⊢
 refine⟨b0,_,_,rfl,rfl,hb1,by decide,by decide,by decide,λbl hbl=>?_⟩
 have eb:(List.replicate (8:Int).toNat [V.int 0]).flatten=(List.replicate 8 (0:Int)).map V.int:=rfl
 rw[eb]
 obtain⟨f1,f2,f3⟩:=B6.fresh hbl
 have hb7:(upd H6' bl (.lst ((List.replicate 8 (0:Int)).map V.int))) bl=some (.lst ((List.replicate 8 (0:Int)).map V.int)):=zbG
 have B6:=B6.other (o:=.lst ((List.replicate 8 (0:Int)).map V.int)) hbl
 generalize (upd H6' bl (.lst ((List.replicate 8 (0:Int)).map V.int)))=H7 at B6 hb7 ⊢
 refine⟨_,rfl,h,_,dx,fs6,rfl,B6.obj,T.clH,T.naH _ (by decide),by omega,?_⟩
 have hl7:=zcj "balances" (.ref bl) fs6
 generalize e7:zdO "balances" (.ref bl) fs6=fs7 at hl7 ⊢
 have B7:=B6.store (fs':=fs7)
 have hb8:(upd H7 h (.ins A.cHouse dx fs7)) bl=some (.lst ((List.replicate 8 (0:Int)).map V.int)):=by rw[zbL f2];exact hb7
 generalize (upd H7 h (.ins A.cHouse dx fs7))=H8 at B7 hb8 ⊢
 refine⟨_,rfl,h,_,dx,fs7,rfl,B7.obj,T.clH,T.naH _ (by decide),by omega,?_⟩
 have hl8:=zcj "till" (.int 0) fs7
 generalize e8:zdO "till" (.int 0) fs7=fs8 at hl8 ⊢
 have B8:=B7.store (fs':=fs8)
 have hb9:(upd H8 h (.ins A.cHouse dx fs8)) bl=some (.lst ((List.replicate 8 (0:Int)).map V.int)):=by rw[zbL f2];exact hb8
 generalize (upd H8 h (.ins A.cHouse dx fs8))=H9 at B8 hb9 ⊢
 refine⟨_,rfl,h,_,dx,fs8,rfl,B8.obj,T.clH,T.naH _ (by decide),by omega,?_⟩
 have hl9:=zcj "sales" (.int 0) fs8
 generalize e9:zdO "sales" (.int 0) fs8=fs9 at hl9 ⊢
 have B9:=B8.store (fs':=fs9)
 have hb10:(upd H9 h (.ins A.cHouse dx fs9)) bl=some (.lst ((List.replicate 8 (0:Int)).map V.int)):=by rw[zbL f2];exact hb9
 generalize (upd H9 h (.ins A.cHouse dx fs9))=H10 at B9 hb10 ⊢
 refine⟨_,rfl,h,_,dx,fs9,rfl,B9.obj,T.clH,T.naH _ (by decide),by omega,?_⟩
 have ef:zdO "cash" (.int 0) fs9=zbY (zea n) ll lr lb bl:=by
  rw[←e9,←e8,←e7,←e6,←e5,←e4,←e3,←e2,←e1]
  rcases hfs with rfl | ⟨S,ll',lr',lb',bl',rfl⟩ <;> rfl
 rw[ef]
 exact q _ ll lr lb bl f1 f2 f3 B9.store (by rw[zbL f2];exact hb10)
def zgZ (A:Ad):Sp:=λvs H Q _=>∃(h:Addr),vs=[.ref h]∧∃dx,H h=some (.ins A.cHouse dx []) ∧
 ∀H' ll lr lb bl,H bl=none→bl≠h→bl ∉ [lb,lr,ll]→Beg A H H' h dx (zbY (zea 0) ll lr lb bl) [lb,lr,ll]→H' bl=some (.lst ((List.replicate 8 (0:Int)).map V.int))→Q .non H'
abbrev zeC:=zdy (top 11) 0
abbrev zn4 (P:Program) (w:World) (K:PySem.W.Frag) (mg:Str→Option Value) (base:Heap) (A:Ad):Prop:=MkI P w K mg base "House" A.cHouse 2 ["self"] (zgZ A)
theorem zi2 (F:Fun K "__init__" "House.__init__" zeC f fd) (T:Txt K mg A) (zbv:zef P w K mg base A):FnOk P w K mg base CX0 2 f fd ["self"] (zgZ A):=by
 have sc:FnScope ["self"] ["self"] (zbK zeC):=fsc
 refine F.ok sc (by rintro _ _ _ _ ⟨h,rfl,_⟩;rfl) λcdv Ar outer s H vs Q E hr h=>?_
 obtain⟨h,rfl,h⟩:=h
 refine⟨_,(zbF (zcf (zch zbv (hr.mono (by decide)) (pv 0) (zbB zbN zbD)))),?_⟩
 obtain⟨dx,hh,q⟩:=h
 refine⟨_,rfl,h,dx,_,rfl,hh,rfl,h,0,rfl,dx,[],hh,.inl rfl,?_⟩
 exact q
def zju (A:Ad):Sp:=λvs H Q _=>∃(h:Addr),vs=[.ref h]∧∃dx S ll lr lb bl,H h=some (.ins A.cHouse dx (zbY S ll lr lb bl))∧Q (.bl (decide (0 < S.zones))) H
abbrev zdf:=zdy (top 11) 2
abbrev zek (P:Program) (w:World) (K:PySem.W.Frag) (mg:Str→Option Value) (base:Heap) (A:Ad):Prop:=MtI P w K mg base A.cHouse "is_begun" 1 ["self"] (zju A)
theorem zf7 (F:Fun K "is_begun" "House.is_begun" zdf f fd) (T:Txt K mg A):FnOk P w K mg base CX0 1 f fd ["self"] (zju A):=by
 have sc:FnScope ["self"] ["self"] (zbK zdf):=fsc
 refine F.ok sc (by rintro _ _ _ _ ⟨h,rfl,_⟩;rfl) λcdv Ar outer s H vs Q E hr h=>?_
 obtain⟨h,rfl,h⟩:=h
 refine⟨_,(zbF (zbJ (zcN zhe (zbE (pv 0) rfl) zbN (zbR _)))),?_⟩
 obtain⟨dx,S,ll,lr,lb,bl,hh,q⟩:=h
 refine⟨_,rfl,gH T hh rfl ⟨_,_,rfl,rfl,?_⟩⟩
 have e:decide ((0:Int) < (S.zones:Int))=decide (0 < S.zones):=by
  rw[decide_eq_decide];omega
 rw[←e] at q
 exact q
def zk3 (A:Ad):Sp:=λvs H Q _=>∃(h:Addr) (s t:Nat),vs=[.ref h,.int s,.int t]∧∃dx S ll lr lb bl,H h=some (.ins A.cHouse dx (zbY S ll lr lb bl))∧Q (.bl (!Vbeman.badEnds S s t)) H
abbrev zdt:=zdy (top 11) 3
abbrev zcH (P:Program) (w:World) (K:PySem.W.Frag) (mg:Str→Option Value) (base:Heap) (A:Ad):Prop:=MtI P w K mg base A.cHouse "has_way" 1 ["self","source","sink"] (zk3 A)
theorem zgJ (F:Fun K "has_way" "House.has_way" zdt f fd) (T:Txt K mg A):FnOk P w K mg base CX0 1 f fd ["self","source","sink"] (zk3 A):=by
 have sc:FnScope ["self","source","sink"] ["self","source","sink"] (zbK zdt):=fsc
 refine F.ok sc (by rintro _ _ _ _ ⟨h,s',t,rfl,_⟩;rfl) λcdv Ar outer s H vs Q E hr h=>?_
 obtain⟨h,s',t,rfl,h⟩:=h
 refine⟨_,(zbF (zbJ (zgq (zcN zeY (pv 1) (zbE (pv 0) rfl) (zbR _)) (zgq (zcN zeY (pv 2) (zbE (pv 0) rfl) (zbR _)) (zig (zcN zeG (pv 1) (pv 2) (zbR _))))))),?_⟩
 obtain⟨dx,S,ll,lr,lb,bl,hh,q⟩:=h
 unfold Vbeman.badEnds at q
 refine⟨_,rfl,⟨_,rfl,gH T hh rfl ⟨_,_,rfl,rfl,⟨_,rfl,zb9 (λh1=>?_) (λh1=>?_)⟩⟩⟩⟩
 ·have h1:(s':Int) < S.zones:=of_decide_eq_true h1
  rw[decide_eq_false (show ¬S.zones≤s' by omega),Bool.false_or] at q
  refine⟨_,rfl,⟨_,rfl,gH T hh rfl ⟨_,_,rfl,rfl,⟨_,rfl,zb9 (λh2=>?_) (λh2=>?_)⟩⟩⟩⟩
  ·have h2:(t:Int) < S.zones:=of_decide_eq_true h2
   rw[decide_eq_false (show ¬S.zones≤t by omega),Bool.false_or] at q
   refine⟨_,rfl,⟨_,rfl,⟨rfl,?_⟩⟩⟩
   have e:(!decide (V.int (s':Int)=V.int (t:Int)))=!(s' == t):=by
    congr 1
    rw[Bool.eq_iff_iff,decide_eq_true_iff,beq_iff_eq]
    constructor
    ·intro z;injection z with z;omega
    ·intro z;rw[z]
   rw[←e] at q
   exact q
  ·have h2:¬(t:Int) < S.zones:=λz=>h2 (decide_eq_true z)
   rw[decide_eq_true (show S.zones≤t by omega),Bool.true_or] at q
   exact q
 ·have h1:¬(s':Int) < S.zones:=λz=>h1 (decide_eq_true z)
  rw[decide_eq_true (show S.zones≤s' by omega),Bool.true_or] at q
  exact q
theorem zkR {S:House} (hb:S.balances.length=8) {o:Nat} (ho:o < 8):(S.balances.map V.int)[o]? = some (.int (Vbeman.balance S o)):=by
 unfold Vbeman.balance
 rw[List.getElem?_map,List.getElem?_eq_getElem (by omega),List.getD_eq_getElem?_getD,List.getElem?_eq_getElem (by omega)]
 rfl
def zpm (A:Ad):Sp:=λvs H Q _=>∃(h:Addr) (o:Nat),vs=[.ref h,.int o]∧o < 8∧∃dx S ll lr lb bl,HouseAt A H h dx ll lr lb bl S∧∀H',Same H H'→Q (.int (Vbeman.free S o)) H'
abbrev zeD:=zdy (top 11) 4
abbrev zcT (P:Program) (w:World) (K:PySem.W.Frag) (mg:Str→Option Value) (base:Heap) (A:Ad):Prop:=MtI P w K mg base A.cHouse "free" 3 ["self","owner"] (zpm A)
theorem zi3 (F:Fun K "free" "House.free" zeD f fd) (T:Txt K mg A) (zaF:zgk P w K mg base A):FnOk P w K mg base CX0 3 f fd ["self","owner"] (zpm A):=by
 have sc:FnScope ["self","owner","bid"] ["self","owner"] (zbK zeD):=fsc
 refine F.ok sc (by rintro _ _ _ _ ⟨h,o,rfl,_⟩;rfl) λcdv Ar outer s H vs Q E hr h=>?_
 obtain⟨h,o,rfl,h⟩:=h
 refine⟨_,(zbF (zbJ (zb2 zcz (zfp zdL (zbE (pv 0) rfl) (pv 1) (λ_ _=>rfl)) (zbT (zht rfl) (by rfl) T.n_sum (by decide +kernel) (zbB (zfF rfl sc.nd (zcD (zbE (pv 0) rfl)) (zcr (own:=[("bid",2)]) (by rfl)) (λ_ _ _ _ _=>(zbW (i:=2) sc.nd (by rfl) (by first | exact Or.inl rfl | exact Or.inr rfl) (by first | exact Or.inl rfl | exact Or.inr rfl))) (λ_ _ _ _ _=>(zmW (zbO zcs (zkB (Kf:=K) (by rfl) (pv 2) (by rfl)) (pv 1) (zbR _)))) (λ_ _ _ _ _=>(zbH zaF (hr.mono (by decide)) (by rfl) (zbB (pv 2) zbD)))) zbD))))),?_⟩
 obtain⟨ho,dx,S,ll,lr,lb,bl,HH,q⟩:=h
 have hh:=HH.obj
 obtain⟨as,hl,hA⟩:=HH.ba
 refine⟨_,rfl,gH T hh rfl ⟨_,rfl,?_⟩⟩
 refine⟨bl,_,_,_,rfl,rfl,SqL.of HH.bal,zdi (zkR HH.good.bl ho),?_⟩
 refine⟨_,rfl,gH T hh rfl ?_⟩
 dsimp only
 refine zmf (K:=K) (ts:=S.bids) (SqL.of hl) (by rw[List.length_map];exact hA.1.symm) (by rw[List.length_map,hA.1];have:=HH.good.nb.len;exact Nat.le_of_lt (zb0 (by omega))) (λb=>b.owner == o) (λb=>V.int (Vbeman.heldFor b)) (λi x t H2 Q' hx ht s2 q'=>?_) (λi x t H2 Q' hx ht hp s2 q'=>?_) (λD H2 hD s2 h2=>?_)
 ·obtain⟨a,r,rfl,hr',hR⟩:=hA.get hx
  rw[ht] at hr'
  cases hr'
  obtain⟨dr,hR⟩:=hR.same s2
  refine⟨_,rfl,gB T hR rfl ⟨_,rfl,?_⟩⟩
  refine⟨rfl,_,rfl,?_⟩
  have e:decide (V.int (t.owner:Int)=V.int (o:Int))=(t.owner == o):=by
   rw[Bool.eq_iff_iff,decide_eq_true_iff,beq_iff_eq]
   constructor
   ·intro z;injection z with z;omega
   ·intro z;rw[z]
  rw[e]
  exact q' _ (Same.refl _)
 ·obtain⟨a,r,rfl,hr',hR⟩:=hA.get hx
  rw[ht] at hr'
  cases hr'
  refine⟨_,rfl,?_⟩
  exact⟨a,rfl,t,hR.same s2,(HH.good.nb.all t (List.mem_of_getElem? ht)).2.2.2.1,q' _ (Same.refl _)⟩
 ·refine⟨D,(S.bids.filter λb=>b.owner == o).map Vbeman.heldFor,rfl,SqL.of (by rw[h2,List.map_map];rfl),?_⟩
  refine⟨_,_,rfl,rfl,?_⟩
  rw[zdn,zls]
  exact q _ s2
def zqS (A:Ad):Sp:=λvs H Q _=>∃(h:Addr) (o:Nat) (m:Int),vs=[.ref h,.int o,.int m]∧o < 8∧∃dx S ll lr lb bl bs,H h=some (.ins A.cHouse dx (zbY S ll lr lb bl))∧bs.length=8∧H bl=some (.lst (bs.map V.int))∧Q .non (upd H bl (.lst ((Vbeman.pay bs o m).map V.int)))
abbrev zfm:=zdy (top 11) 5
abbrev zdA (P:Program) (w:World) (K:PySem.W.Frag) (mg:Str→Option Value) (base:Heap) (A:Ad):Prop:=MtI P w K mg base A.cHouse "pay" 1 ["self","owner","amount"] (zqS A)
theorem zjV (F:Fun K "pay" "House.pay" zfm f fd) (T:Txt K mg A):FnOk P w K mg base CX0 1 f fd ["self","owner","amount"] (zqS A):=by
 have sc:FnScope ["self","owner","amount"] ["self","owner","amount"] (zbK zfm):=fsc
 refine F.ok sc (by rintro _ _ _ _ ⟨h,o,m,rfl,_⟩;rfl) λcdv Ar outer s H vs Q E hr h=>?_
 obtain⟨h,o,m,rfl,h⟩:=h
 refine⟨_,(zbF (zpr (zb2 zcK (zfp zdL (zbE (pv 0) rfl) (pv 1) (λ_ _=>rfl)) (pv 2)) (zpv (zbE (pv 0) rfl) (pv 1) zk8))),?_⟩
 obtain⟨ho,dx,S,ll,lr,lb,bl,bs,hh,hb,hbl,q⟩:=h
 have hx:bs[o]? = some bs[o]:=List.getElem?_eq_getElem (by omega)
 refine⟨_,rfl,gH T hh rfl ⟨_,rfl,?_⟩⟩
 refine⟨bl,_,_,.int bs[o],rfl,rfl,SqL.of hbl,zdi (by rw[List.getElem?_map,hx];rfl),?_⟩
 refine⟨_,rfl,⟨_,_,rfl,rfl,⟨_,rfl,gH T hh rfl ⟨_,rfl,?_⟩⟩⟩⟩
 refine⟨bl,_,_,o,rfl,rfl,hbl,znx (by rw[List.length_map];omega),?_⟩
 unfold Vbeman.pay at q
 rw[zf8 _ hx,List.map_set] at q
 exact q
end
end Z
namespace Z
open PySem PySem.Spec PyProof.Rows L2
open Vbeman (Line Right House Bid)
theorem zkC (S:House) (a b:Nat) (f g:Int):Vbeman.onHouse S (.line a b f g)=if Vbeman.badEnds S a b=true then (S,[-3]) else if Vbeman.LINES≤S.lines.length then (S,[-5]) else ({ S with lines:=S.lines++[⟨a,b,f,g⟩] },[0,(S.lines.length:Int)]):=rfl
def roomed (ls:List Line) (l:Nat) (f g:Int):List Line:=ls.modify l λx=>{ x with forth:=f,back:=g }
theorem ziP (S:House) (l:Nat) (f g:Int):Vbeman.onHouse S (.rooms l f g)=if S.lines.length≤l then (S,[-3]) else if Vbeman.safe S.zones (roomed S.lines l f g) S.rights=false then (S,[-7]) else ({ S with lines:=roomed S.lines l f g },[0]):=rfl
theorem zjG (S:House) (l:Nat) (f g:Int):Vbeman.onHouse S (.outage l f g)=if S.lines.length≤l then (S,[-3]) else if Vbeman.safe S.zones (roomed S.lines l f g) (Vbeman.trim S.zones (roomed S.lines l f g) S.rights.reverse [])=false then (S,[-7]) else
 ({ S with lines:=roomed S.lines l f g,rights:=Vbeman.trim S.zones (roomed S.lines l f g) S.rights.reverse [] },0::Vbeman.row (S.rights.flatMap (zc0 (Vbeman.trim S.zones (roomed S.lines l f g) S.rights.reverse [])))):=by
 rw[←zqi];rfl
theorem zlj (S:House) (o s t:Nat) (opt:Bool) (q p:Int):Vbeman.onHouse S (.grant o s t opt q p)=if Vbeman.badEnds S s t=true then (S,[-3]) else if Vbeman.RIGHTS≤S.rights.length then (S,[-5]) else if Vbeman.free S o < max 0 p * q then (S,[-6]) else
 if Vbeman.safe S.zones S.lines (S.rights++[⟨S.nextRight,o,s,t,opt,q⟩])=false then (S,[-7]) else ({ S with rights:=S.rights++[⟨S.nextRight,o,s,t,opt,q⟩],nextRight:=S.nextRight + 1,balances:=Vbeman.pay S.balances o (-(p * q)),sales:=S.sales + p * q },[0,(S.nextRight:Int)]):=rfl
theorem znb (S:House) (s t:Nat):Vbeman.onHouse S (.most s t)=if Vbeman.badEnds S s t=true then (S,[-3]) else (S,[0,Vbeman.mostFor S.zones S.lines S.rights s t]):=rfl
theorem zoH {S:House} {k:Nat} {q:Int} (h:Vbeman.find S k=none):Vbeman.onHouse S (.back k q)=(S,[-3]):=by
 show (match Vbeman.find S k with | none=>_ | some r=>_)=_
 rw[h]
theorem znd {S:House} {k:Nat} {q:Int} {r:Right} (h:Vbeman.find S k=some r):Vbeman.onHouse S (.back k q)=if r.amount < q then (S,[-4]) else if Vbeman.safe S.zones S.lines (Vbeman.setAmount S.rights k (r.amount - q))=false then (S,[-7]) else ({ S with rights:=Vbeman.setAmount S.rights k (r.amount - q) },[0,r.amount - q]):=by
 show (match Vbeman.find S k with | none=>_ | some r=>_)=_
 rw[h]
theorem zoD {S:House} {k:Nat} (h:Vbeman.find S k=none):Vbeman.onHouse S (.keep k)=(S,[-3]):=by
 show (match Vbeman.find S k with | none=>_ | some r=>_)=_
 rw[h]
theorem znc {S:House} {k:Nat} {r:Right} (h:Vbeman.find S k=some r):Vbeman.onHouse S (.keep k)=(S,[0,r.amount - Vbeman.loose S.zones S.lines S.rights r]):=by
 show (match Vbeman.find S k with | none=>_ | some r=>_)=_
 rw[h]
section
variable {P : Program} {w : World} {K : PySem.W.Frag} {mg : Str → Option Value} {base : Heap} {A : Ad} {f : Addr} {fd : FuncData}
def zce (A:Ad) (R:List (Str×Int)→Vbeman.Call→Prop):Sp:=λvs H Q _=>∃(h d:Addr),vs=[.ref h,.ref d]∧∃dx ll lr lb bl S nums c,HouseAt A H h dx ll lr lb bl S∧H d=some (.dK (zdg nums))∧R nums c∧zlD A h ll lr lb bl H (Vbeman.onHouse S c).1 (Vbeman.onHouse S c).2 Q
theorem zbZ {H H1:Hp} {h dx ll lr lb bl:Addr} {S:House} {c:Vbeman.Call} {ans:List Int} {Q:VK} {xs:List V}
  (q:zlD A h ll lr lb bl H (Vbeman.onHouse S c).1 (Vbeman.onHouse S c).2 Q)
  (hH:HouseAt A H h dx ll lr lb bl S) (s:Same H H1) (e:Vbeman.onHouse S c=(S,ans)) (hx:xs=ans.map V.int) (hz:Nat.ble xs.length 1000=true:=by rfl):xs.length≤sizeLine∧∀p,H1 p=none→Q (.ref p) (upd H1 p (.lst xs)):=by
 rw[e] at q
 exact zcZ q (hH.same s) (zcd s) hx hz
theorem zhs {H H1:Hp} {h dx ll lr lb bl ll1 lr1 lb1 bl1 p a:Addr} {S':House} {ans xs row:List Int} {Q:VK} {vs:List V} (q:zlD A h ll lr lb bl H S' ans Q) (hH:HouseAt A H1 h dx ll1 lr1 lb1 bl1 S') (s:zit h ll lr lb bl H ll1 lr1 lb1 bl1 H1)
  (ha:H1 a=some (.lst (row.map V.int))) (hz:row.length≤900) (hx:xs.length≤90) (hv:vs=xs.map V.int) (hans:ans=xs++Vbeman.row row) (hp:H1 p=none):zg0 [.ref a] (upd H1 p (.lst vs)) (λy H2=>rCat (.ref p) y H2 Q) E0:=by
 have s1:Same H1 (upd H1 p (.lst vs)):=Same.upd hp
 have h1:(upd H1 p (.lst vs)) p=some (.lst vs):=zbG
 generalize (upd H1 p (.lst vs))=H2 at s1 h1 ⊢
 refine⟨a,rfl,row,s1 _ _ ha,by omega,λH3 p3 s3 hp3 h3=>?_⟩
 refine⟨p,p3,_,_,rfl,rfl,s3 _ _ h1,h3,?_,λp4 hp4=>?_⟩
 ·rw[hv,List.length_map,List.length_map]
  show xs.length + (row.length + 1)≤sizeLine
  exact Nat.le_trans (show _≤2000 by omega) (by decide)
 ·have s4:Same H3 (upd H3 p4 (.lst (vs++(Vbeman.row row).map V.int))):=Same.upd hp4
  have st:=(s1.trans s3).trans s4
  refine q _ p4 dx ll1 lr1 lb1 bl1 (hH.same st) (s.trans (zcd st)) (zeL s ((s1.trans s3).free hp4)) ?_ ?_
  ·rw[hans,List.length_append]
   show xs.length + (row.length + 1)≤1000
   omega
  ·rw[zbG,hv,hans,List.map_append]
theorem RightAt.ne {H:Hp} {a b:Addr} {r:Right} {o:HO} (h:RightAt A H a r) (hb:H b=some o) (ho:(∃xs,o=.lst xs)∨∃C dx S ll lr lb bl,o=.ins C dx (zbY S ll lr lb bl)):a≠b:=by
 obtain⟨dx,e⟩:=h
 refine zeb e hb ?_
 rcases ho with ⟨xs,rfl⟩ | ⟨C,dx',S,ll,lr,lb,bl,rfl⟩
 ·intro z;cases z
 ·intro z
  injection z with _ _ z
  have:=congrArg (List.map Prod.fst) z
  exact absurd this (by show ¬(["number","owner","source","sink","kind","amount"]:List Str)=(["zones","lines","rights","bids","next_number","next_bid_number","balances","till","sales","cash"]:List Str);decide)
theorem LineAt.ne {H:Hp} {a b:Addr} {r:Line} {o:HO} (h:LineAt A H a r) (hb:H b=some o) (ho:(∃xs,o=.lst xs)∨∃C dx S ll lr lb bl,o=.ins C dx (zbY S ll lr lb bl)):a≠b:=by
 obtain⟨dx,e⟩:=h
 refine zeb e hb ?_
 rcases ho with ⟨xs,rfl⟩ | ⟨C,dx',S,ll,lr,lb,bl,rfl⟩
 ·intro z;cases z
 ·intro z
  injection z with _ _ z
  have:=congrArg (List.map Prod.fst) z
  exact absurd this (by show ¬(["first","second","forth","back"]:List Str)=(["zones","lines","rights","bids","next_number","next_bid_number","balances","till","sales","cash"]:List Str);decide)
theorem BidAt.ne {H:Hp} {a b:Addr} {r:Bid} {o:HO} (h:BidAt A H a r) (hb:H b=some o) (ho:(∃xs,o=.lst xs)∨∃C dx S ll lr lb bl,o=.ins C dx (zbY S ll lr lb bl)):a≠b:=by
 obtain⟨dx,e⟩:=h
 refine zeb e hb ?_
 rcases ho with ⟨xs,rfl⟩ | ⟨C,dx',S,ll,lr,lb,bl,rfl⟩
 ·intro z;cases z
 ·intro z
  injection z with _ _ z
  have:=congrArg (List.map Prod.fst) z
  exact absurd this (by show ¬(["number","owner","source","sink","kind","left","price"]:List Str)=(["zones","lines","rights","bids","next_number","next_bid_number","balances","till","sales","cash"]:List Str);decide)
theorem HouseAt.finB {H1 H':Hp} {h dx ll lr lb bl ll' lr' lb':Addr} {S S':House} (x:HouseAt A H1 h dx ll lr lb bl S) (ho:H' h=some (.ins A.cHouse dx (zbY S' ll' lr' lb' bl))) (hb:H' bl=some (.lst (S'.balances.map V.int)))
  (k:∀b o,H1 b=some o→b≠h→b≠bl→H' b=some o) (hl:LinesAt A H1 ll' S'.lines) (hr:RightsAt A H1 lr' S'.rights) (hd:BidsAt A H1 lb' S'.bids) (d1:ll'≠lr') (d2:ll'≠bl) (d3:lr'≠bl) (d4:lb'≠bl) (d5:ll'≠lb') (g:Good S'):HouseAt A H' h dx ll' lr' lb' bl S':=by
 have hH:=x.obj
 have hB:=x.bal
 have kR:∀a r,RightAt A H1 a r→RightAt A H' a r:=λa r z=>by
  have n1:=z.ne hH (.inr ⟨_,_,_,_,_,_,_,rfl⟩)
  have n2:=z.ne hB (.inl ⟨_,rfl⟩)
  obtain⟨dx,e⟩:=z
  exact⟨dx,k _ _ e n1 n2⟩
 have kL:∀a r,LineAt A H1 a r→LineAt A H' a r:=λa r z=>by
  have n1:=z.ne hH (.inr ⟨_,_,_,_,_,_,_,rfl⟩)
  have n2:=z.ne hB (.inl ⟨_,rfl⟩)
  obtain⟨dx,e⟩:=z
  exact⟨dx,k _ _ e n1 n2⟩
 have kB:∀a r,BidAt A H1 a r→BidAt A H' a r:=λa r z=>by
  have n1:=z.ne hH (.inr ⟨_,_,_,_,_,_,_,rfl⟩)
  have n2:=z.ne hB (.inl ⟨_,rfl⟩)
  obtain⟨dx,e⟩:=z
  exact⟨dx,k _ _ e n1 n2⟩
 obtain⟨as,e1,a1⟩:=hl
 obtain⟨bs,e2,a2⟩:=hr
 obtain⟨cs,e3,a3⟩:=hd
 exact⟨ho,⟨as,k _ _ e1 (zeb e1 hH (by intro z;cases z)) d2,a1.imp kL⟩,⟨bs,k _ _ e2 (zeb e2 hH (by intro z;cases z)) d3,a2.imp kR⟩,⟨cs,k _ _ e3 (zeb e3 hH (by intro z;cases z)) d4,a3.imp kB⟩,hb,d1,d2,d3,d4,d5,g⟩
theorem HouseAt.fin {H1 H':Hp} {h dx ll lr lb bl ll' lr':Addr} {S S':House} (x:HouseAt A H1 h dx ll lr lb bl S) (ho:H' h=some (.ins A.cHouse dx (zbY S' ll' lr' lb bl))) (hb:H' bl=some (.lst (S'.balances.map V.int)))
  (k:∀b o,H1 b=some o→b≠h→b≠bl→H' b=some o) (hl:LinesAt A H1 ll' S'.lines) (hr:RightsAt A H1 lr' S'.rights) (d1:ll'≠lr') (d2:ll'≠bl) (d3:lr'≠bl) (g:Good S') (d5:ll'≠lb:=by first | exact HouseAt.d5 ‹_› | assumption) (eb:S'.bids=S.bids:=by rfl):HouseAt A H' h dx ll' lr' lb bl S' :=
 x.finB ho hb k hl hr (by rw[eb];exact x.ba) d1 d2 d3 x.d4 d5 g
theorem zdP {H H1 H':Hp} {h ll lr lb bl ll' lr' lb':Addr} (s:Same H H1) (k:∀b o,H1 b=some o→b≠h→b≠bl→H' b=some o) (hl:ll'=ll∨H ll'=none) (hlr:lr'=lr∨H lr'=none) (hlb:lb'=lb∨H lb'=none):zit h ll lr lb bl H ll' lr' lb' bl H':=λb o e=>by
 obtain⟨n,hb⟩:=zcS e
 have n1:b≠h:=λz=>n (by rw[z];exact List.mem_cons_self ..)
 have n2:b≠ll:=λz=>n (by rw[z];exact List.mem_cons_of_mem _ (List.mem_cons_self ..))
 have n2':b≠lr:=λz=>n (by rw[z];exact List.mem_cons_of_mem _ (List.mem_cons_of_mem _ (List.mem_cons_self ..)))
 have n2'':b≠lb:=λz=>n (by rw[z];exact List.mem_cons_of_mem _ (List.mem_cons_of_mem _ (List.mem_cons_of_mem _ (List.mem_cons_self ..))))
 have n3:b≠bl:=λz=>n (by rw[z];exact List.mem_cons_of_mem _ (List.mem_cons_of_mem _ (List.mem_cons_of_mem _ (List.mem_cons_of_mem _ (List.mem_cons_self ..)))))
 have n4:b≠ll':=hl.elim (λz=>by rw[z];exact n2) λz=>zbI hb z
 have n5:b≠lr':=hlr.elim (λz=>by rw[z];exact n2') λz=>zbI hb z
 have n6:b≠lb':=hlb.elim (λz=>by rw[z];exact n2'') λz=>zbI hb z
 refine zcY (k _ _ (s _ _ hb) n1 n3) λm=>?_
 rcases List.mem_cons.mp m with z | m
 ·exact n1 z
 ·rcases List.mem_cons.mp m with z | m
  ·exact n4 z
  ·rcases List.mem_cons.mp m with z | m
   ·exact n5 z
   ·rcases List.mem_cons.mp m with z | m
    ·exact n6 z
    ·exact n3 (List.mem_singleton.mp m)
theorem zec {H H1 H':Hp} {h ll lr lb bl ll' lr':Addr} (s:Same H H1) (k:∀b o,H1 b=some o→b≠h→b≠bl→H' b=some o) (hl:ll'=ll∨H ll'=none) (hlr:lr'=lr∨H lr'=none):zit h ll lr lb bl H ll' lr' lb bl H':=zdP s k hl hlr (.inl rfl)
theorem zb7 {H1:Hp} {h bl:Addr} {o:HO}:∀b u,H1 b=some u→b≠h→b≠bl→upd H1 h o b=some u:=λb u e n _=>by rw[zbL n];exact e
theorem HouseAt.nbh {H1:Hp} {h dx ll lr lb bl:Addr} {S:House} (x:HouseAt A H1 h dx ll lr lb bl S):bl≠h:=zeb x.bal x.obj (by intro z;cases z)
theorem HouseAt.nlh {H1:Hp} {h dx ll lr lb bl:Addr} {S:House} (x:HouseAt A H1 h dx ll lr lb bl S):ll≠h:=let ⟨as,e,_⟩:=x.la;zeb e x.obj (by intro z;cases z)
def zqr (nums:List (Str×Int)) (c:Vbeman.Call):Prop:=∃(a b:Nat) (f g:Int),nums=([("a",(a:Int)),("b",(b:Int)),("forth",f),("back",g)]:List (Str×Int))∧c=.line a b f g
abbrev zf2:=top 63
abbrev ziw (P:Program) (w:World) (K:PySem.W.Frag) (mg:Str→Option Value) (base:Heap) (A:Ad):Prop:=FnI P w K mg base "add_line" 3 ["house","numbers"] (zce A zqr)
theorem zkG (F:Fun K "add_line" "add_line" zf2 f fd) (T:Txt K mg A) (zbx:zcH P w K mg base A) (zbt:zn3 P w K mg base A):FnOk P w K mg base CX0 3 f fd ["house","numbers"] (zce A zqr):=by
 have sc:FnScope ["house","numbers","a","b"] ["house","numbers"] (zbK zf2):=fsc
 refine F.ok sc (by rintro _ _ _ _ ⟨h,d,rfl,_⟩;rfl) λcdv Ar outer s H vs Q E hr h=>?_
 obtain⟨h,d,rfl,h⟩:=h
 refine⟨_,(zbC (zbP (i:=2) sc.nd rfl (by first | exact Or.inl rfl | exact Or.inr rfl) (zbS (zb8 hr) (pv 1) zbV (λ_ _=>rfl))) (zbC (zbP (i:=3) sc.nd rfl (by first | exact Or.inl rfl | exact Or.inr rfl) (zbS (zb8 hr) (pv 1) zbV (λ_ _=>rfl))) (zbC (zbU (zcW (zcy (zch zbx (hr.mono (by decide)) (pv 0) (zbB (pv 2) (zbB (pv 3) zbD))))) (zbF (zbJ (zbQ (zbB (zb6 T.i_NOT_THERE (by rfl)) zbD)))) zbM) (zbC (zbU (zbO zcs (zbT zcc (by rfl) T.n_len (by decide +kernel) (zbB (zbE (pv 0) rfl) zbD)) (zb6 T.i_MOST_LINES (by rfl)) (zbR _)) (zbF (zbJ (zbQ (zbB (zb6 T.i_FULL (by rfl)) zbD)))) zbM) (zbC (zcf (zeF PySem.F.plainAttrs_list PySem.F.slot_list_append PySem.F.type_list_append zcX (zbE (pv 0) rfl) (zbB (zcI zbt (hr.mono (by decide)) (by rfl) (zbB (pv 2) (zbB (pv 3) (zbB (zbS (zb8 hr) (pv 1) zbV (λ_ _=>rfl)) (zbB (zbS (zb8 hr) (pv 1) zbV (λ_ _=>rfl)) zbD))))) zbD))) (zbF (zbJ (zbQ (zbB zbN (zbB (zb2 zcz (zbT zcc (by rfl) T.n_len (by decide +kernel) (zbB (zbE (pv 0) rfl) zbD)) zbN) zbD)))))))))),?_⟩
 obtain⟨dx,ll,lr,lb,bl,S,nums,c,HH,hd,⟨a,b,fo,ba,rfl,rfl⟩,q⟩:=h
 have hh:=HH.obj
 obtain⟨as,hl,hA⟩:=HH.la
 refine⟨_,rfl,_,_,rfl,zdc hd,⟨_,rfl,_,_,rfl,zdc hd,⟨_,rfl,_,_,_,rfl,hh,rfl,⟨_,rfl,⟨_,rfl,?_⟩⟩⟩⟩⟩
 refine⟨h,a,b,rfl,dx,S,ll,lr,lb,bl,hh,_,rfl,?_⟩
 refine zb9 (λh1=>?_) (λh1=>?_)
 ·refine zbZ q HH (Same.refl _) (ans:=[-3]) ?_ rfl
  rw[zkC,if_pos (by simpa using h1)]
 ·have h1:¬Vbeman.badEnds S a b=true:=by simpa using h1
  refine⟨_,rfl,gH T hh rfl ?_⟩
  refine⟨_,_,rfl,.inl ⟨_,SqL.of hl,rfl⟩,rfl,_,rfl,?_⟩
  rw[List.length_map,hA.1]
  have hg:=HH.good.ll
  refine zb9 (λh2=>?_) (λh2=>?_)
  ·refine zbZ q HH (Same.refl _) (ans:=[-5]) ?_ rfl
   have h2:(S.lines.length:Int)=10:=by injection (of_decide_eq_true h2)
   rw[zkC,if_neg h1,if_pos (show Vbeman.LINES≤S.lines.length by show 10≤_;omega)]
  ·have h2:¬(S.lines.length:Int)=10:=λz=>h2 (decide_eq_true (by rw[z]))
   have e:Vbeman.onHouse S (.line a b fo ba)=({ S with lines:=S.lines++[⟨a,b,fo,ba⟩] },[0,(S.lines.length:Int)]):=by
    rw[zkC,if_neg h1,if_neg (show ¬Vbeman.LINES≤S.lines.length by show ¬10≤_;omega)]
   rw[e] at q
   refine⟨_,rfl,gH T hh rfl ?_⟩
   refine⟨.inl ⟨rfl,_,SqL.of hl⟩,?_⟩
   refine⟨_,rfl,⟨_,rfl,⟨_,rfl,_,_,rfl,zdc hd,⟨_,rfl,_,_,rfl,zdc hd,znn (r:=⟨a,b,fo,ba⟩) λH2 y ny sH2 aH2=>?_⟩⟩⟩⟩
   have HH2:=HH.same sH2
   have hl2:=sH2 _ _ hl
   refine⟨ll,_,_,rfl,rfl,hl2,by rw[List.length_map,hA.1];exact zb0 (by omega),?_⟩
   have hbe:a < S.zones∧b < S.zones:=by
    unfold Vbeman.badEnds at h1
    simp only [Bool.or_eq_true,decide_eq_true_eq,beq_iff_eq,not_or] at h1
    omega
   have HH3:HouseAt A (upd H2 ll (.lst (as.map V.ref++[V.ref y]))) h dx ll lr lb bl { S with lines:=S.lines++[⟨a,b,fo,ba⟩] }:=by
    have kR:∀c r,RightAt A H2 c r→RightAt A (upd H2 ll (.lst (as.map V.ref++[V.ref y]))) c r:=λc r z=>by
     have n:=z.ne hl2 (.inl ⟨_,rfl⟩)
     obtain⟨dc,e⟩:=z
     exact⟨dc,by rw[zbL n];exact e⟩
    have kL:∀c r,LineAt A H2 c r→LineAt A (upd H2 ll (.lst (as.map V.ref++[V.ref y]))) c r:=λc r z=>by
     have n:=z.ne hl2 (.inl ⟨_,rfl⟩)
     obtain⟨dc,e⟩:=z
     exact⟨dc,by rw[zbL n];exact e⟩
    have kB:∀c r,BidAt A H2 c r→BidAt A (upd H2 ll (.lst (as.map V.ref++[V.ref y]))) c r:=λc r z=>by
     have n:=z.ne hl2 (.inl ⟨_,rfl⟩)
     obtain⟨dc,e⟩:=z
     exact⟨dc,by rw[zbL n];exact e⟩
    obtain⟨bs,e2,a2⟩:=HH2.ra
    obtain⟨cs,e3,a3⟩:=HH2.ba
    refine⟨by rw[zbL (Ne.symm HH.nlh)];exact HH2.obj,⟨as++[y],by rw[zbG,List.map_append];rfl,((hA.imp λc r z=>kL c r (z.same sH2)).snoc (kL _ _ aH2))⟩,⟨bs,by rw[zbL (Ne.symm HH.d1)];exact e2,a2.imp kR⟩,⟨cs,by rw[zbL (Ne.symm HH.d5)];exact e3,a3.imp kB⟩,by rw[zbL (Ne.symm HH.d2)];exact HH2.bal,HH.d1,HH.d2,HH.d3,HH.d4,HH.d5,?_⟩
    have g:=HH.good
    refine⟨g.z2,g.z6,by show (S.lines++[_]).length≤10;rw[List.length_append,List.length_singleton];omega,g.rl,λl hl=>?_,g.ro,g.nd,g.bl,g.nb⟩
    rcases List.mem_append.mp hl with hl | hl
    ·exact g.lo l hl
    ·rw[List.mem_singleton.mp hl];exact hbe
   have K3:zit h ll lr lb bl H ll lr lb bl (upd H2 ll (.lst (as.map V.ref++[V.ref y]))):=by
    have:=zcd (h:=h) (ll:=ll) (lr:=lr) (lb:=lb) (bl:=bl) sH2
    show Same _ (zeo _ (upd H2 ll _))
    rw[zi8 (List.mem_cons_of_mem _ (List.mem_cons_self ..))]
    exact this
   have hl3:(upd H2 ll (.lst (as.map V.ref++[V.ref y]))) ll=some (.lst (as.map V.ref++[V.ref y])):=zbG
   generalize (upd H2 ll (.lst (as.map V.ref++[V.ref y])))=H3 at HH3 K3 hl3 ⊢
   have hh3:=HH3.obj
   refine⟨_,rfl,gH T hh3 rfl ?_⟩
   refine⟨_,_,rfl,.inl ⟨_,SqL.of hl3,rfl⟩,?_⟩
   refine⟨_,_,rfl,rfl,?_⟩
   refine zcZ q HH3 K3 ?_
   show [V.int 0,V.int _]=[V.int 0,V.int _]
   rw[List.length_append,List.length_map,hA.1]
   congr 3
   show ((S.lines.length + 1:Nat):Int) - 1=_
   omega
end
end Z
namespace Z
open PySem PySem.Spec PyProof.Rows L2
open Vbeman (Line Right House Bid)
section
variable {P : Program} {w : World} {K : PySem.W.Frag} {mg : Str → Option Value} {base : Heap} {A : Ad} {f : Addr} {fd : FuncData}
theorem zlT (ls:List Line) (l:Nat) (f g:Int):(roomed ls l f g).length=ls.length:=by
 unfold roomed;rw[List.length_modify]
theorem zlS {ls:List Line} {l:Nat} {f g:Int} {x:Line} (h:x∈roomed ls l f g):∃y∈ls,x.a=y.a∧x.b=y.b:=by
 unfold roomed at h
 obtain⟨i,hi⟩:=List.getElem?_of_mem h
 rw[List.getElem?_modify] at hi
 cases e:ls[i]? with
 | none=>rw[e] at hi;cases hi
 | some y =>
  rw[e] at hi
  refine⟨y,List.mem_of_getElem? e,?_⟩
  have hi:some (if l=i then { y with forth:=f,back:=g } else y)=some x:=hi
  have hi:=Option.some.inj hi
  rw[←hi]
  split <;> exact⟨rfl,rfl⟩
theorem Good.roomed {S:House} (g:Good S) (l:Nat) (f b:Int):Good { S with lines:=roomed S.lines l f b } :=
 ⟨g.z2,g.z6,by show (Z.roomed S.lines l f b).length≤10;rw[zlT];exact g.ll,g.rl,λx hx=>by
  obtain⟨y,hy,e1,e2⟩:=zlS hx
  have:=g.lo y hy
  rw[e1,e2];exact this,g.ro,g.nd,g.bl,g.nb⟩
def zio (mkc:Nat→Int→Int→Vbeman.Call) (nums:List (Str×Int)) (c:Vbeman.Call):Prop:=∃(l:Nat) (f g:Int),nums=([("line",(l:Int)),("forth",f),("back",g)]:List (Str×Int))∧c=mkc l f g
abbrev zdJ:=top 64
abbrev ze5 (P:Program) (w:World) (K:PySem.W.Frag) (mg:Str→Option Value) (base:Heap) (A:Ad):Prop:=FnI P w K mg base "change_rooms" 7 ["house","numbers"] (zce A (zio .rooms))
theorem zhk (F:Fun K "change_rooms" "change_rooms" zdJ f fd) (T:Txt K mg A) (zbo:zeR P w K mg base A) (zaK:zdR P w K mg base A):FnOk P w K mg base CX0 7 f fd ["house","numbers"] (zce A (zio .rooms)):=by
 have sc:FnScope ["house","numbers","lines"] ["house","numbers"] (zbK zdJ):=fsc
 refine F.ok sc (by rintro _ _ _ _ ⟨h,d,rfl,_⟩;rfl) λcdv Ar outer s H vs Q E hr h=>?_
 obtain⟨h,d,rfl,h⟩:=h
 refine⟨_,(zbC (zbU (zbO zlW (zbS (zb8 hr) (pv 1) zbV (λ_ _=>rfl)) (zbT zcc (by rfl) T.n_len (by decide +kernel) (zbB (zbE (pv 0) rfl) zbD)) (zbR _)) (zbF (zbJ (zbQ (zbB (zb6 T.i_NOT_THERE (by rfl)) zbD)))) zbM) (zbC (zbP (i:=2) sc.nd rfl (by first | exact Or.inl rfl | exact Or.inr rfl) (zbH zbo (hr.mono (by decide)) (by rfl) (zbB (zbE (pv 0) rfl) (zbB (zbS (zb8 hr) (pv 1) zbV (λ_ _=>rfl)) (zbB (zbS (zb8 hr) (pv 1) zbV (λ_ _=>rfl)) (zbB (zbS (zb8 hr) (pv 1) zbV (λ_ _=>rfl)) zbD)))))) (zbC (zbU (zcW (zcy (zbH zaK (hr.mono (by decide)) (by rfl) (zbB (zbE (pv 0) rfl) (zbB (pv 2) (zbB (zbE (pv 0) rfl) zbD)))))) (zbF (zbJ (zbQ (zbB (zb6 T.i_NOT_SAFE (by rfl)) zbD)))) zbM) (zbC (zbX (pv 0) (pv 2) rfl) (zbF (zbJ (zbQ (zbB zbN zbD)))))))),?_⟩
 obtain⟨dx,ll,lr,lb,bl,S,nums,c,HH,hd,⟨l,fo,ba,rfl,rfl⟩,q⟩:=h
 have hh:=HH.obj
 obtain⟨as,hl,hA⟩:=HH.la
 refine⟨_,rfl,_,_,rfl,zdc hd,⟨_,rfl,gH T hh rfl ?_⟩⟩
 refine⟨_,_,rfl,.inl ⟨_,SqL.of hl,rfl⟩,?_⟩
 refine⟨_,_,rfl,rfl,⟨_,rfl,?_⟩⟩
 rw[List.length_map,hA.1]
 refine zb9 (λh1=>?_) (λh1=>?_)
 ·have h1:=of_decide_eq_true h1
  refine zbZ q HH (Same.refl _) (ans:=[-3]) ?_ rfl
  rw[ziP,if_pos (by omega)]
 ·have h1:¬((S.lines.length:Int)≤(l:Int)):=λz=>h1 (decide_eq_true z)
  have hll:=HH.good.ll
  refine⟨_,rfl,gH T hh rfl ⟨_,rfl,_,_,rfl,zdc hd,⟨_,rfl,_,_,rfl,zdc hd,⟨_,rfl,_,_,rfl,zdc hd,?_⟩⟩⟩⟩
  refine⟨ll,l,fo,ba,rfl,S.lines,by omega,by omega,HH.la,λH1 p1 s1 hp1 h1'=>?_⟩
  have HH1:=HH.same s1
  have hh1:=HH1.obj
  have G1:=HH.good.roomed l fo ba
  have hN:NetAt A H1 p1 lr (roomed S.lines l fo ba) S.rights:=⟨h1',HH1.ra,G1.okL,G1.okR,by have:=G1.ll;exact Nat.le_trans this (by decide),by have:=G1.rl;exact Nat.le_trans this (by decide)⟩
  refine⟨_,rfl,gH T hh1 rfl ⟨_,rfl,⟨_,rfl,gH T hh1 rfl ?_⟩⟩⟩
  refine⟨S.zones,p1,lr,rfl,_,_,HH.good.z6,hN,λH2 s2=>⟨_,rfl,?_⟩⟩
  refine zb9 (λh2=>?_) (λh2=>?_)
  ·refine zbZ q HH (s1.trans s2) (ans:=[-7]) ?_ rfl
   rw[ziP,if_neg (by omega),if_pos (by simpa using h2)]
  ·have h2:¬Vbeman.safe S.zones (roomed S.lines l fo ba) S.rights=false:=by simpa using h2
   have e:Vbeman.onHouse S (.rooms l fo ba)=({ S with lines:=roomed S.lines l fo ba },[0]):=by
    rw[ziP,if_neg (by omega),if_neg h2]
   rw[e] at q
   have HH2:=HH1.same s2
   have hh2:=HH2.obj
   refine⟨_,rfl,_,rfl,h,_,dx,_,rfl,hh2,T.clH,T.naH _ (by decide),by show 10 < 1000;decide,?_⟩
   have np:p1≠lr:=by
    obtain⟨bs,e2,_⟩:=HH.ra
    exact (zbI e2 hp1).symm
   refine zcZ q (dx:=dx) (ll1:=p1) (lr1:=lr) (bl1:=bl) (HH2.fin (ll':=p1) (lr':=lr) zbG (by rw[zbL HH2.nbh];exact HH2.bal) zb7 (h1'.same s2) HH2.ra np (zbI HH.bal hp1).symm HH.d3 G1 (let ⟨_,e3,_⟩:=HH.ba;(zbI e3 hp1).symm)) (zec (s1.trans s2) zb7 (.inr hp1) (.inl rfl)) rfl
theorem Good.cut {S:House} (g:Good S) {rs:List Right} (c:CutL S.rights rs):Good { S with rights:=rs }:=by
 refine⟨g.z2,g.z6,g.ll,Nat.le_trans c.len g.rl,g.lo,λx hx=>?_,g.nd.sublist c.nums,g.bl,g.nb⟩
 obtain⟨r,hr,q⟩:=c.mem x hx
 obtain⟨⟨h1,h2,h3,h4⟩,h5,h6,h7⟩:=g.ro r hr
 have e:=q.eq
 refine⟨⟨?_,?_,?_,q.pos⟩,?_,?_,Int.le_trans q.le h7⟩
 ·rw[e];exact h1
 ·rw[e];exact h2
 ·rw[e];exact h3
 ·rw[e];exact h5
 ·rw[e];exact h6
abbrev ziI:=top 65
abbrev zlG (P:Program) (w:World) (K:PySem.W.Frag) (mg:Str→Option Value) (base:Heap) (A:Ad):Prop:=FnI P w K mg base "outage" 7 ["house","numbers"] (zce A (zio .outage))
theorem zng (F:Fun K "outage" "outage" ziI f fd) (T:Txt K mg A) (zbo:zeR P w K mg base A) (zat:zfV P w K mg base A) (za2:zfS P w K mg base A) (zaK:zdR P w K mg base A) (zas:zdS P w K mg base A):FnOk P w K mg base CX0 7 f fd ["house","numbers"] (zce A (zio .outage)):=by
 have sc:FnScope ["house","numbers","lines","rights","row"] ["house","numbers"] (zbK ziI):=fsc
 refine F.ok sc (by rintro _ _ _ _ ⟨h,d,rfl,_⟩;rfl) λcdv Ar outer s H vs Q E hr h=>?_
 obtain⟨h,d,rfl,h⟩:=h
 refine⟨_,(zbC (zbU (zbO zlW (zbS (zb8 hr) (pv 1) zbV (λ_ _=>rfl)) (zbT zcc (by rfl) T.n_len (by decide +kernel) (zbB (zbE (pv 0) rfl) zbD)) (zbR _)) (zbF (zbJ (zbQ (zbB (zb6 T.i_NOT_THERE (by rfl)) zbD)))) zbM) (zbC (zbP (i:=2) sc.nd rfl (by first | exact Or.inl rfl | exact Or.inr rfl) (zbH zbo (hr.mono (by decide)) (by rfl) (zbB (zbE (pv 0) rfl) (zbB (zbS (zb8 hr) (pv 1) zbV (λ_ _=>rfl)) (zbB (zbS (zb8 hr) (pv 1) zbV (λ_ _=>rfl)) (zbB (zbS (zb8 hr) (pv 1) zbV (λ_ _=>rfl)) zbD)))))) (zbC (zbP (i:=3) sc.nd rfl (by first | exact Or.inl rfl | exact Or.inr rfl) (zbH zat (hr.mono (by decide)) (by rfl) (zbB (zbE (pv 0) rfl) (zbB (pv 2) (zbB (zbE (pv 0) rfl) zbD))))) (zbC (zbU (zcW (zcy (zbH zaK (hr.mono (by decide)) (by rfl) (zbB (zbE (pv 0) rfl) (zbB (pv 2) (zbB (pv 3) zbD)))))) (zbF (zbJ (zbQ (zbB (zb6 T.i_NOT_SAFE (by rfl)) zbD)))) zbM) (zbC (zbP (i:=4) sc.nd rfl (by first | exact Or.inl rfl | exact Or.inr rfl) (zbH za2 (hr.mono (by decide)) (by rfl) (zbB (zbE (pv 0) rfl) (zbB (pv 3) zbD)))) (zbC (zbX (pv 0) (pv 2) rfl) (zbC (zbX (pv 0) (pv 3) rfl) (zbF (zbJ (zb2 zdw (zbQ (zbB zbN zbD)) (zbH zas (hr.mono (by decide)) (by rfl) (zbB (pv 4) zbD)))))))))))),?_⟩
 obtain⟨dx,ll,lr,lb,bl,S,nums,c,HH,hd,⟨l,fo,ba,rfl,rfl⟩,q⟩:=h
 have hh:=HH.obj
 obtain⟨as,hl,hA⟩:=HH.la
 refine⟨_,rfl,_,_,rfl,zdc hd,⟨_,rfl,gH T hh rfl ?_⟩⟩
 refine⟨_,_,rfl,.inl ⟨_,SqL.of hl,rfl⟩,?_⟩
 refine⟨_,_,rfl,rfl,⟨_,rfl,?_⟩⟩
 rw[List.length_map,hA.1]
 refine zb9 (λh1=>?_) (λh1=>?_)
 ·have h1:=of_decide_eq_true h1
  refine zbZ q HH (Same.refl _) (ans:=[-3]) ?_ rfl
  rw[zjG,if_pos (by omega)]
 ·have h1:¬((S.lines.length:Int)≤(l:Int)):=λz=>h1 (decide_eq_true z)
  have hll:=HH.good.ll
  refine⟨_,rfl,gH T hh rfl ⟨_,rfl,_,_,rfl,zdc hd,⟨_,rfl,_,_,rfl,zdc hd,⟨_,rfl,_,_,rfl,zdc hd,?_⟩⟩⟩⟩
  refine⟨ll,l,fo,ba,rfl,S.lines,by omega,by omega,HH.la,λH1 p1 s1 hp1 h1'=>?_⟩
  have HH1:=HH.same s1
  have hh1:=HH1.obj
  have G1:=HH.good.roomed l fo ba
  have hN:NetAt A H1 p1 lr (roomed S.lines l fo ba) S.rights:=⟨h1',HH1.ra,G1.okL,G1.okR,by have:=G1.ll;exact Nat.le_trans this (by decide),by have:=G1.rl;exact Nat.le_trans this (by decide)⟩
  refine⟨_,rfl,gH T hh1 rfl ⟨_,rfl,⟨_,rfl,gH T hh1 rfl ?_⟩⟩⟩
  refine⟨S.zones,p1,lr,rfl,_,_,HH.good.z6,hN,λr hr=>(HH.good.ro r hr).1,HH.good.nd,λH2 p2 s2 hp2 h2'=>?_⟩
  obtain⟨pre,ep,hcut⟩:=zgL S.zones (roomed S.lines l fo ba) S.rights.reverse [] (λr hr=>(HH.good.ro r (List.mem_reverse.mp hr)).1.2.2.2)
  rw[List.append_nil] at ep
  rw[List.reverse_reverse] at hcut
  have eon:=zjG S l fo ba
  rw[if_neg (by omega),ep] at eon
  rw[ep] at h2'
  have G2:=G1.cut hcut
  have HH2:=HH1.same s2
  have hh2:=HH2.obj
  have hN2:NetAt A H2 p1 p2 (roomed S.lines l fo ba) pre:=⟨h1'.same s2,h2',G2.okL,G2.okR,by have:=G2.ll;exact Nat.le_trans this (by decide),by have:=G2.rl;exact Nat.le_trans this (by decide)⟩
  refine⟨_,rfl,gH T hh2 rfl ⟨_,rfl,⟨_,rfl,?_⟩⟩⟩
  refine⟨S.zones,p1,p2,rfl,_,_,HH.good.z6,hN2,λH3 s3=>⟨_,rfl,?_⟩⟩
  refine zb9 (λh3=>?_) (λh3=>?_)
  ·refine zbZ q HH ((s1.trans s2).trans s3) (ans:=[-7]) ?_ rfl
   rw[eon,if_pos (by simpa using h3)]
  ·rw[if_neg (by simpa using h3)] at eon
   rw[eon] at q
   have HH3:=HH2.same s3
   have hh3:=HH3.obj
   refine⟨_,rfl,gH T hh3 rfl ⟨_,rfl,?_⟩⟩
   refine⟨lr,p2,rfl,S.rights,pre,HH3.ra,h2'.same s3,Nat.le_trans HH.good.rl (by decide),λr hr=>(HH.good.ro r hr).1.2.2.2,λr hr x hx=>(hcut.find HH.good.nd hr hx).le,λH4 p4 s4 hp4 h4=>?_⟩
   have HH4:=HH3.same s4
   have hh4:=HH4.obj
   have s14:=((s1.trans s2).trans s3).trans s4
   refine⟨_,rfl,_,rfl,h,_,dx,_,rfl,hh4,T.clH,T.naH _ (by decide),by show 10 < 1000;decide,?_⟩
   refine⟨_,rfl,_,rfl,h,_,dx,_,rfl,zbG,T.clH,T.naH _ (by decide),by show 10 < 1000;decide,?_⟩
   rw[zcg]
   have np12:p1≠p2:=by
    obtain⟨bs,e2,_⟩:=HH.ra
    obtain⟨cs,e3,_⟩:=h1'
    rcases hp2 with rfl | z
    ·exact (zbI e2 hp1).symm
    ·exact zbI e3 z
   have np2b:p2≠bl:=by
    rcases hp2 with rfl | z
    ·exact HH.d3
    ·exact (zbI HH1.bal z).symm
   have HH5:=HH4.fin (ll':=p1) (lr':=p2) (H':=upd H4 h (.ins A.cHouse dx (zbY { S with lines:=roomed S.lines l fo ba,rights:=pre } p1 p2 lb bl))) (S':={ S with lines:=roomed S.lines l fo ba,rights:=pre }) zbG (by rw[zbL HH4.nbh];exact HH4.bal) zb7 (((h1'.same s2).same s3).same s4) ((h2'.same s3).same s4) np12 (zbI HH.bal hp1).symm np2b G2 (let ⟨_,e3,_⟩:=HH.ba;(zbI e3 hp1).symm)
   have K5:zit h ll lr lb bl H p1 p2 lb bl (upd H4 h (.ins A.cHouse dx (zbY { S with lines:=roomed S.lines l fo ba,rights:=pre } p1 p2 lb bl))):=zec s14 zb7 (.inr hp1) (hp2.imp id λz=>s1.free z)
   have h5:(upd H4 h (.ins A.cHouse dx (zbY { S with lines:=roomed S.lines l fo ba,rights:=pre } p1 p2 lb bl))) p4=some (.lst ((S.rights.flatMap (zc0 pre)).map V.int)):=by
    rw[zbL (zeb h4 hh4 (by intro z;cases z))];exact h4
   rw[show zdO "rights" (.ref p2) (zdO "lines" (.ref p1) (zbY S ll lr lb bl))=zbY { S with lines:=roomed S.lines l fo ba,rights:=pre } p1 p2 lb bl from rfl]
   generalize (upd H4 h (.ins A.cHouse dx (zbY { S with lines:=roomed S.lines l fo ba,rights:=pre } p1 p2 lb bl)))=H5 at HH5 K5 h5 ⊢
   have hrow:(S.rights.flatMap (zc0 pre)).length≤60:=by
    have h2:=zi9 (zc0 pre) 2 (zik pre) S.rights
    have h3:=HH.good.rl
    omega
   refine⟨by show 1≤sizeLine;decide,λp6 hp6=>?_⟩
   refine⟨_,rfl,?_⟩
   exact zhs (xs:=[0]) q HH5 K5 h5 (by omega) (by decide) rfl rfl hp6
end
end Z
namespace Z
open PySem PySem.Spec PyProof.Rows L2
open Vbeman (Line Right House Bid)
theorem zgj {S:House} {s t:Nat} (h:¬Vbeman.badEnds S s t=true):s < S.zones∧t < S.zones∧s≠t:=by
 unfold Vbeman.badEnds at h
 simp only [Bool.or_eq_true,decide_eq_true_eq,beq_iff_eq,not_or] at h
 omega
theorem zpa (a b:List Right):ze1 (a++b)=ze1 a++ze1 b:=List.map_append ..
theorem zfG {l:List Right} {k:Nat} {r:Right} (h:(ze1 l).Nodup) (hb:∀x∈l,x.number < k) (hr:r.number=k):(ze1 (l++[r])).Nodup:=by
 rw[zpa]
 refine znm h λm=>?_
 obtain⟨x,hx,e⟩:=List.mem_map.mp m
 have e:x.number=r.number:=e
 have:=hb x hx
 omega
theorem zd7 (l:List Int) (o:Nat) (m:Int):(Vbeman.pay l o m).length=l.length:=by unfold Vbeman.pay;rw[List.length_modify]
section
variable {P : Program} {w : World} {K : PySem.W.Frag} {mg : Str → Option Value} {base : Heap} {A : Ad} {f : Addr} {fd : FuncData}
def zqq (nums:List (Str×Int)) (c:Vbeman.Call):Prop:=∃(s t:Nat),nums=([("source",(s:Int)),("sink",(t:Int))]:List (Str×Int))∧c=.most s t
abbrev zfb:=top 87
abbrev zhy (P:Program) (w:World) (K:PySem.W.Frag) (mg:Str→Option Value) (base:Heap) (A:Ad):Prop:=FnI P w K mg base "tell_most" 6 ["house","numbers"] (zce A zqq)
theorem zjK (F:Fun K "tell_most" "tell_most" zfb f fd) (T:Txt K mg A) (za6:zct P w K mg base A) (zbx:zcH P w K mg base A) (zaN:zcA P w K mg base A):FnOk P w K mg base CX0 6 f fd ["house","numbers"] (zce A zqq):=by
 have sc:FnScope ["house","numbers","source","sink","slacks"] ["house","numbers"] (zbK zfb):=fsc
 refine F.ok sc (by rintro _ _ _ _ ⟨h,d,rfl,_⟩;rfl) λcdv Ar outer s H vs Q E hr h=>?_
 obtain⟨h,d,rfl,h⟩:=h
 refine⟨_,(zbC (zbP (i:=2) sc.nd rfl (by first | exact Or.inl rfl | exact Or.inr rfl) (zbS (zb8 hr) (pv 1) zbV (λ_ _=>rfl))) (zbC (zbP (i:=3) sc.nd rfl (by first | exact Or.inl rfl | exact Or.inr rfl) (zbS (zb8 hr) (pv 1) zbV (λ_ _=>rfl))) (zbC (zbU (zcW (zcy (zch zbx (hr.mono (by decide)) (pv 0) (zbB (pv 2) (zbB (pv 3) zbD))))) (zbF (zbJ (zbQ (zbB (zb6 T.i_NOT_THERE (by rfl)) zbD)))) zbM) (zbC (zbP (i:=4) sc.nd rfl (by first | exact Or.inl rfl | exact Or.inr rfl) (zbH za6 (hr.mono (by decide)) (by rfl) (zbB (zbE (pv 0) rfl) (zbB (zbE (pv 0) rfl) (zbB (zbE (pv 0) rfl) zbD))))) (zbF (zbJ (zbQ (zbB zbN (zbB (zbH zaN (hr.mono (by decide)) (by rfl) (zbB (pv 4) (zbB (pv 2) (zbB (pv 3) zbD)))) zbD))))))))),?_⟩
 obtain⟨dx,ll,lr,lb,bl,S,nums,c,HH,hd,⟨s',t,rfl,rfl⟩,q⟩:=h
 have hh:=HH.obj
 refine⟨_,rfl,_,_,rfl,zdc hd,⟨_,rfl,_,_,rfl,zdc hd,⟨_,rfl,_,_,_,rfl,hh,rfl,⟨_,rfl,⟨_,rfl,?_⟩⟩⟩⟩⟩
 refine⟨h,s',t,rfl,dx,S,ll,lr,lb,bl,hh,_,rfl,?_⟩
 refine zb9 (λh1=>?_) (λh1=>?_)
 ·refine zbZ q HH (Same.refl _) (ans:=[-3]) ?_ rfl
  rw[znb,if_pos (by simpa using h1)]
 ·have h1:¬Vbeman.badEnds S s' t=true:=by simpa using h1
  obtain⟨b1,b2,b3⟩:=zgj h1
  refine⟨_,rfl,gH T hh rfl ⟨_,rfl,gH T hh rfl ⟨_,rfl,gH T hh rfl ?_⟩⟩⟩
  refine⟨S.zones,ll,lr,rfl,_,_,HH.good.z6,HH.net,λH1 p1 s1 hp1 h1'=>?_⟩
  refine⟨_,rfl,⟨_,rfl,⟨_,rfl,?_⟩⟩⟩
  refine⟨p1,s',t,rfl,S.zones,_,zco _ _ _,HH.good.z6,b1,b2,b3,h1',λH2 s2=>?_⟩
  rw[zfH]
  refine zbZ q HH (s1.trans s2) (ans:=[0,_]) ?_ rfl
  rw[znb,if_neg h1]
theorem zc8 (l:List Right) (k:Nat) (q:Int):(ze1 (Vbeman.setAmount l k q)).Sublist (ze1 l):=by
 unfold Vbeman.setAmount Vbeman.without ze1
 split
 ·exact List.Sublist.map _ (List.filter_sublist ..)
 ·rw[List.map_map]
  have e:(Right.number ∘ λr:Right=>if r.number=k then { r with amount:=q } else r)=Right.number:=by
   funext r
   show (if r.number=k then ({ r with amount:=q }:Right) else r).number=r.number
   split <;> rfl
  rw[e]
  exact List.Sublist.refl _
theorem zfA {l:List Right} {k:Nat} {q:Int} {x:Right} (h:x∈Vbeman.setAmount l k q):∃r∈l,x=r∨(r.number=k∧1≤q∧x={ r with amount:=q }):=by
 unfold Vbeman.setAmount Vbeman.without at h
 split at h
 ·exact⟨x,(List.mem_filter.mp h).1,.inl rfl⟩
 ·obtain⟨r,hr,e⟩:=List.mem_map.mp h
  refine⟨r,hr,?_⟩
  split at e
  ·rename_i h1 h2
   exact .inr ⟨h2,by omega,e.symm⟩
  ·exact .inl e.symm
def OneOk (z nx:Nat) (r:Right):Prop:=zrt z r∧r.owner < 8∧r.number < nx∧r.amount≤1000000000
theorem OneOk.amount {z nx:Nat} {r:Right} (h:OneOk z nx r) {q:Int} (h1:1≤q) (h2:q≤1000000000):OneOk z nx { r with amount:=q }:=⟨⟨h.1.1,h.1.2.1,h.1.2.2.1,h1⟩,h.2.1,h.2.2.1,h2⟩
theorem OneOk.next {z nx nx':Nat} {r:Right} (h:OneOk z nx r) (hn:nx≤nx'):OneOk z nx' r:=⟨h.1,h.2.1,Nat.lt_of_lt_of_le h.2.2.1 hn,h.2.2.2⟩
theorem Good.set {S:House} (g:Good S) {k:Nat} {q:Int} (hq:q≤1000000000):Good { S with rights:=Vbeman.setAmount S.rights k q }:=by
 refine⟨g.z2,g.z6,g.ll,Nat.le_trans (zcv _ _ _) g.rl,g.lo,λx hx=>?_,g.nd.sublist (zc8 _ _ _),g.bl,g.nb⟩
 obtain⟨r,hr,rfl | ⟨_,h1,rfl⟩⟩:=zfA hx
 ·exact g.ro _ hr
 ·exact OneOk.amount (g.ro r hr) h1 hq
theorem zhq {S:House} (g:Good S) {k:Nat} {r:Right} (h:Vbeman.find S k=some r):r∈S.rights∧r.number=k∧OneOk S.zones S.nextRight r:=by
 have h1:=List.mem_of_find?_eq_some h
 have h2:r.number=k:=by have:=List.find?_some h;simpa using this
 exact⟨h1,h2,g.ro r h1⟩
def zqu (nums:List (Str×Int)) (c:Vbeman.Call):Prop:=∃(k:Nat) (q:Int),nums=([("right",(k:Int)),("amount",q)]:List (Str×Int))∧1≤q∧c=.back k q
abbrev zfh:=top 88
abbrev zhD (P:Program) (w:World) (K:PySem.W.Frag) (mg:Str→Option Value) (base:Heap) (A:Ad):Prop:=FnI P w K mg base "give_back" 7 ["house","numbers"] (zce A zqu)
theorem zjQ (F:Fun K "give_back" "give_back" zfh f fd) (T:Txt K mg A) (zax:zb1 P w K mg base A) (zbl:zcx P w K mg base A) (zaK:zdR P w K mg base A):FnOk P w K mg base CX0 7 f fd ["house","numbers"] (zce A zqu):=by
 have sc:FnScope ["house","numbers","right","left","rights"] ["house","numbers"] (zbK zfh):=fsc
 refine F.ok sc (by rintro _ _ _ _ ⟨h,d,rfl,_⟩;rfl) λcdv Ar outer s H vs Q E hr h=>?_
 obtain⟨h,d,rfl,h⟩:=h
 refine⟨_,(zbC (zbP (i:=2) sc.nd rfl (by first | exact Or.inl rfl | exact Or.inr rfl) (zbH zax (hr.mono (by decide)) (by rfl) (zbB (zbE (pv 0) rfl) (zbB (zbS (zb8 hr) (pv 1) zbV (λ_ _=>rfl)) zbD)))) (zbC (zbU (zdu (zdB (pv 2))) (zbF (zbJ (zbQ (zbB (zb6 T.i_NOT_THERE (by rfl)) zbD)))) zbM) (zbC (zbU (zbO zeY (zbE (pv 2) rfl) (zbS (zb8 hr) (pv 1) zbV (λ_ _=>rfl)) (zbR _)) (zbF (zbJ (zbQ (zbB (zb6 T.i_NOT_FITTING (by rfl)) zbD)))) zbM) (zbC (zbP (i:=3) sc.nd rfl (by first | exact Or.inl rfl | exact Or.inr rfl) (zb2 zcz (zbE (pv 2) rfl) (zbS (zb8 hr) (pv 1) zbV (λ_ _=>rfl)))) (zbC (zbP (i:=4) sc.nd rfl (by first | exact Or.inl rfl | exact Or.inr rfl) (zbH zbl (hr.mono (by decide)) (by rfl) (zbB (zbE (pv 0) rfl) (zbB (zbE (pv 2) rfl) (zbB (pv 3) zbD))))) (zbC (zbU (zcW (zcy (zbH zaK (hr.mono (by decide)) (by rfl) (zbB (zbE (pv 0) rfl) (zbB (zbE (pv 0) rfl) (zbB (pv 4) zbD)))))) (zbF (zbJ (zbQ (zbB (zb6 T.i_NOT_SAFE (by rfl)) zbD)))) zbM) (zbC (zbX (pv 0) (pv 4) rfl) (zbF (zbJ (zbQ (zbB zbN (zbB (pv 3) zbD)))))))))))),?_⟩
 obtain⟨dx,ll,lr,lb,bl,S,nums,c,HH,hd,⟨k,am,rfl,ham,rfl⟩,q⟩:=h
 have hh:=HH.obj
 refine⟨_,rfl,gH T hh rfl ⟨_,rfl,_,_,rfl,zdc hd,?_⟩⟩
 refine zci T HH.ra λv hv=>?_
 refine⟨_,rfl,?_⟩
 cases e:Vbeman.find S k with
 | none =>
  rw[show (S.rights.find? λr=>r.number == k)=none from e] at hv
  have hv:v=.non:=hv
  subst hv
  refine⟨_,rfl,zgc ?_⟩
  exact zbZ q HH (Same.refl _) (zoH e) rfl
 | some r =>
  rw[show (S.rights.find? λr=>r.number == k)=some r from e] at hv
  obtain⟨a,rfl,dr,hR⟩:=hv
  obtain⟨hm,hk,hO⟩:=zhq HH.good e
  refine⟨_,rfl,zi7 ?_⟩
  refine⟨_,rfl,gR T hR rfl ⟨_,rfl,_,_,rfl,zdc hd,⟨_,_,rfl,rfl,⟨_,rfl,zb9 (λh1=>?_) (λh1=>?_)⟩⟩⟩⟩
  ·refine zbZ q HH (Same.refl _) (ans:=[-4]) ?_ rfl
   rw[znd e,if_pos (of_decide_eq_true h1)]
  ·have h1:¬r.amount < am:=λz=>h1 (decide_eq_true z)
   refine⟨_,rfl,gR T hR rfl ⟨_,rfl,_,_,rfl,zdc hd,⟨_,_,rfl,rfl,⟨_,rfl,gH T hh rfl ⟨_,rfl,gR T hR rfl ⟨_,rfl,?_⟩⟩⟩⟩⟩⟩
   refine⟨lr,r.number,_,rfl,S.rights,Nat.le_trans HH.good.rl (by decide),HH.ra,λH1 p1 s1 hp1 h1'=>?_⟩
   rw[hk] at h1'
   have eo:=znd (q:=am) e
   rw[if_neg h1] at eo
   have HH1:=HH.same s1
   have hh1:=HH1.obj
   have G1:=HH.good.set (k:=k) (q:=r.amount - am) (by have:=hO.2.2.2;omega)
   have hN:NetAt A H1 ll p1 S.lines (Vbeman.setAmount S.rights k (r.amount - am)):=⟨HH1.la,h1',G1.okL,G1.okR,by have:=G1.ll;exact Nat.le_trans this (by decide),by have:=G1.rl;exact Nat.le_trans this (by decide)⟩
   refine⟨_,rfl,gH T hh1 rfl ⟨_,rfl,gH T hh1 rfl ⟨_,rfl,?_⟩⟩⟩
   refine⟨S.zones,ll,p1,rfl,_,_,HH.good.z6,hN,λH2 s2=>⟨_,rfl,?_⟩⟩
   refine zb9 (λh2=>?_) (λh2=>?_)
   ·refine zbZ q HH (s1.trans s2) (ans:=[-7]) ?_ rfl
    rw[eo,if_pos (by simpa using h2)]
   ·rw[if_neg (by simpa using h2)] at eo
    rw[eo] at q
    have HH2:=HH1.same s2
    have hh2:=HH2.obj
    refine⟨_,rfl,_,rfl,h,_,dx,_,rfl,hh2,T.clH,T.naH _ (by decide),by show 10 < 1000;decide,?_⟩
    have np:ll≠p1:=by
     obtain⟨bs,e2,_⟩:=HH.la
     exact zbI e2 hp1
    refine⟨_,rfl,?_⟩
    exact zcZ q (dx:=dx) (ll1:=ll) (lr1:=p1) (bl1:=bl) (HH2.fin (ll':=ll) (lr':=p1) zbG (by rw[zbL HH2.nbh];exact HH2.bal) zb7 HH2.la (h1'.same s2) np HH.d2 (zbI HH.bal hp1).symm G1) (zec (s1.trans s2) zb7 (.inl rfl) (.inr hp1)) rfl
def zqs (nums:List (Str×Int)) (c:Vbeman.Call):Prop:=∃(k:Nat),nums=([("right",(k:Int))]:List (Str×Int))∧c=.keep k
theorem zoT {S:House} {r:Right} (ho:r.option=false) (h1:1≤r.amount) (h2:r.amount≤1000000000) (hne:r.source≠r.sink) (hz:r.source < S.zones):(if (0:Int) < r.amount - zl9 S.zones (zcJ S.zones S.lines S.rights) r.sink r.source then r.amount - zl9 S.zones (zcJ S.zones S.lines S.rights) r.sink r.source else 0)=r.amount - Vbeman.loose S.zones S.lines S.rights r:=by
 rw[zfH]
 have el:Vbeman.loose S.zones S.lines S.rights r=(Vbeman.groups S.zones).foldl (λ(m:Int) X=>if Vbeman.enters X r.sink r.source=true then min m (Vbeman.slack X S.lines S.rights) else m) r.amount:=by
  unfold Vbeman.loose
  rw[ho]
  exact if_neg Bool.false_ne_true
 rw[el]
 unfold Vbeman.mostFor
 obtain⟨a1,b1,c1⟩:=zfM (λX=>Vbeman.enters X r.sink r.source) (λX=>Vbeman.slack X S.lines S.rights) (Vbeman.groups S.zones) r.amount
 obtain⟨a2,b2,c2⟩:=zfM (λX=>Vbeman.enters X r.sink r.source) (λX=>Vbeman.slack X S.lines S.rights) (Vbeman.groups S.zones) Vbeman.BIG
 have hB:Vbeman.BIG=1000000000:=rfl
 generalize e1:(Vbeman.groups S.zones).foldl (λ(m:Int) X=>if Vbeman.enters X r.sink r.source=true then min m (Vbeman.slack X S.lines S.rights) else m) r.amount=m1 at a1 b1 c1 ⊢
 generalize e2:(Vbeman.groups S.zones).foldl (λ(m:Int) X=>if Vbeman.enters X r.sink r.source=true then min m (Vbeman.slack X S.lines S.rights) else m) Vbeman.BIG=m2 at a2 b2 c2 ⊢
 rw[hB] at a2 c2
 have h12:m1≤m2:=by
  rcases c2 with c2 | ⟨X,hX,hp,c2⟩
  ·omega
  ·have:=b1 X hX hp
   rw[c2];exact this
 have h21:m1=r.amount∨m2≤m1:=by
  rcases c1 with c1 | ⟨X,hX,hp,c1⟩
  ·exact .inl c1
  ·right
   have:=b2 X hX hp
   rw[c1];exact this
 split <;> omega
abbrev zfc:=top 89
abbrev zhz (P:Program) (w:World) (K:PySem.W.Frag) (mg:Str→Option Value) (base:Heap) (A:Ad):Prop:=FnI P w K mg base "tell_keep" 6 ["house","numbers"] (zce A zqs)
theorem zjL (F:Fun K "tell_keep" "tell_keep" zfc f fd) (T:Txt K mg A) (zax:zb1 P w K mg base A) (za6:zct P w K mg base A) (zaN:zcA P w K mg base A):FnOk P w K mg base CX0 6 f fd ["house","numbers"] (zce A zqs):=by
 have sc:FnScope ["house","numbers","right","slacks"] ["house","numbers"] (zbK zfc):=fsc
 refine F.ok sc (by rintro _ _ _ _ ⟨h,d,rfl,_⟩;rfl) λcdv Ar outer s H vs Q E hr h=>?_
 obtain⟨h,d,rfl,h⟩:=h
 refine⟨_,(zbC (zbP (i:=2) sc.nd rfl (by first | exact Or.inl rfl | exact Or.inr rfl) (zbH zax (hr.mono (by decide)) (by rfl) (zbB (zbE (pv 0) rfl) (zbB (zbS (zb8 hr) (pv 1) zbV (λ_ _=>rfl)) zbD)))) (zbC (zbU (zdu (zdB (pv 2))) (zbF (zbJ (zbQ (zbB (zb6 T.i_NOT_THERE (by rfl)) zbD)))) zbM) (zbC (zbU (zbO zcs (zbE (pv 2) rfl) (zb6 T.i_OPTION (by rfl)) (zbR _)) (zbF (zbJ (zbQ (zbB zbN (zbB zbN zbD))))) zbM) (zbC (zbP (i:=3) sc.nd rfl (by first | exact Or.inl rfl | exact Or.inr rfl) (zbH za6 (hr.mono (by decide)) (by rfl) (zbB (zbE (pv 0) rfl) (zbB (zbE (pv 0) rfl) (zbB (zbE (pv 0) rfl) zbD))))) (zbF (zbJ (zbQ (zbB zbN (zbB (zbT (zdQ rfl) (by rfl) T.n_max (by decide +kernel) (zbB zbN (zbB (zb2 zcz (zbE (pv 2) rfl) (zbH zaN (hr.mono (by decide)) (by rfl) (zbB (pv 3) (zbB (zbE (pv 2) rfl) (zbB (zbE (pv 2) rfl) zbD))))) zbD))) zbD))))))))),?_⟩
 obtain⟨dx,ll,lr,lb,bl,S,nums,c,HH,hd,⟨k,rfl,rfl⟩,q⟩:=h
 have hh:=HH.obj
 refine⟨_,rfl,gH T hh rfl ⟨_,rfl,_,_,rfl,zdc hd,?_⟩⟩
 refine zci T HH.ra λv hv=>?_
 refine⟨_,rfl,?_⟩
 cases e:Vbeman.find S k with
 | none =>
  rw[show (S.rights.find? λr=>r.number == k)=none from e] at hv
  have hv:v=.non:=hv
  subst hv
  refine⟨_,rfl,zgc ?_⟩
  exact zbZ q HH (Same.refl _) (zoD e) rfl
 | some r =>
  rw[show (S.rights.find? λr=>r.number == k)=some r from e] at hv
  obtain⟨a,rfl,dr,hR⟩:=hv
  obtain⟨hm,hk,hO⟩:=zhq HH.good e
  refine⟨_,rfl,zi7 ?_⟩
  refine⟨_,rfl,gR T hR rfl ⟨rfl,_,rfl,zb9 (λh1=>?_) (λh1=>?_)⟩⟩
  ·have ho:r.option=true:=by
    cases ho:r.option with
    | true=>rfl
    | false=>rw[ho] at h1;cases (of_decide_eq_true h1)
   refine zbZ q HH (Same.refl _) (ans:=[0,0]) ?_ rfl
   rw[znc e]
   unfold Vbeman.loose
   rw[ho,if_pos rfl,Int.sub_self]
  ·have ho:r.option=false:=by
    cases ho:r.option with
    | false=>rfl
    | true=>exact absurd (by rw[ho];rfl) h1
   refine⟨_,rfl,gH T hh rfl ⟨_,rfl,gH T hh rfl ⟨_,rfl,gH T hh rfl ?_⟩⟩⟩
   refine⟨S.zones,ll,lr,rfl,_,_,HH.good.z6,HH.net,λH1 p1 s1 hp1 h1'=>?_⟩
   have hR1:=s1 _ _ hR
   refine⟨_,rfl,gR T hR1 rfl ⟨_,rfl,⟨_,rfl,gR T hR1 rfl ⟨_,rfl,gR T hR1 rfl ?_⟩⟩⟩⟩
   refine⟨p1,r.sink,r.source,rfl,S.zones,_,zco _ _ _,HH.good.z6,hO.1.2.1,hO.1.1,Ne.symm hO.1.2.2.1,h1',λH2 s2=>?_⟩
   refine⟨_,_,rfl,rfl,_,_,rfl,?_⟩
   have el:=zoT (S:=S) ho hO.1.2.2.2 hO.2.2.2 hO.1.2.2.1 hO.1.1
   refine zbZ q HH (s1.trans s2) (znc e) ?_
   rw[←el]
   rfl
end
end Z
namespace Z
open PySem PySem.Spec PyProof.Rows L2
open Vbeman (Line Right House Bid)
section
variable {P : Program} {w : World} {K : PySem.W.Frag} {mg : Str → Option Value} {base : Heap} {A : Ad} {f : Addr} {fd : FuncData}
theorem RightsAt.push {H H2:Hp} {lr p2 y:Addr} {rs:List Right} {r:Right} {as:List Addr} (e:H lr=some (.lst (as.map V.ref))) (hA:AllAt (RightAt A H) as rs) (hy:RightAt A H y r) (s:Same H H2) (h2:H2 p2=some (.lst (as.map V.ref++[V.ref y]))):RightsAt A H2 p2 (rs++[r]) :=
 ⟨as++[y],by rw[h2,List.map_append];rfl,(hA.imp λc x z=>z.same s).snoc (hy.same s)⟩
theorem Good.grant {S:House} (g:Good S) {r:Right} (hl:S.rights.length < 30) (hr:OneOk S.zones (S.nextRight + 1) r) (hn:r.number=S.nextRight) {bs:List Int} (hb:bs.length=8) (sa:Int) :
  Good { S with rights:=S.rights++[r],nextRight:=S.nextRight + 1,balances:=bs,sales:=sa }:=by
 refine⟨g.z2,g.z6,g.ll,?_,g.lo,λx hx=>?_,zfG g.nd (λx hx=>(g.ro x hx).2.2.1) hn,hb,g.nb⟩
 ·show (S.rights++[r]).length≤30
  rw[List.length_append,List.length_singleton];omega
 ·rcases List.mem_append.mp hx with hx | hx
  ·exact OneOk.next (g.ro x hx) (Nat.le_succ _)
  ·rw[List.mem_singleton.mp hx];exact hr
def zpg (A:Ad):Sp:=λvs H Q _=>∃(h a:Addr) (p:Int),vs=[.ref h,.ref a,.int p]∧∃dx ll lr lb bl S r,HouseAt A H h dx ll lr lb bl S∧RightAt A H a r∧r.number=S.nextRight∧OneOk S.zones (S.nextRight + 1) r∧S.rights.length < 30 ∧
 ∀H' lr',HouseAt A H' h dx ll lr' lb bl { S with rights:=S.rights++[r],nextRight:=S.nextRight + 1,balances:=Vbeman.pay S.balances r.owner (-(p * r.amount)),sales:=S.sales + p * r.amount }→H lr'=none→(∀b o,H b=some o→b≠h→b≠bl→H' b=some o)→Q .non H'
theorem RightAt.nh0 {H:Hp} {h dx ll lr lb bl a:Addr} {S:House} {r:Right} (z:RightAt A H a r) (x:HouseAt A H h dx ll lr lb bl S):a≠h:=z.ne x.obj (.inr ⟨_,_,_,_,_,_,_,rfl⟩)
abbrev zeB:=zdy (top 11) 6
abbrev zeV (P:Program) (w:World) (K:PySem.W.Frag) (mg:Str→Option Value) (base:Heap) (A:Ad):Prop:=MtI P w K mg base A.cHouse "sell" 2 ["self","right","price"] (zpg A)
theorem zi1 (F:Fun K "sell" "House.sell" zeB f fd) (T:Txt K mg A) (zbz:zdA P w K mg base A):FnOk P w K mg base CX0 2 f fd ["self","right","price"] (zpg A):=by
 have sc:FnScope ["self","right","price","cost"] ["self","right","price"] (zbK zeB):=fsc
 refine F.ok sc (by rintro _ _ _ _ ⟨h,a,pr,rfl,_⟩;rfl) λcdv Ar outer s H vs Q E hr h=>?_
 obtain⟨h,a,pr,rfl,h⟩:=h
 refine⟨_,(zbC (zbP (i:=3) sc.nd rfl (by first | exact Or.inl rfl | exact Or.inr rfl) (zb2 zgr (pv 2) (zbE (pv 1) rfl))) (zbC (zbX (pv 0) (zb2 zdw (zbE (pv 0) rfl) (zbQ (zbB (pv 1) zbD))) rfl) (zbC (zbX (pv 0) (zb2 zcK (zbE (pv 1) rfl) zbN) rfl) (zbC (zcf (zch zbz (hr.mono (by decide)) (pv 0) (zbB (zbE (pv 1) rfl) (zbB (zb2 zcz zbN (pv 3)) zbD)))) (zbF (zbX (pv 0) (zb2 zcK (zbE (pv 0) rfl) (pv 3)) rfl)))))),?_⟩
 obtain⟨dx,ll,lr,lb,bl,S,r,HH,hR0,hnum,hO,hl30,q⟩:=h
 have hh:=HH.obj
 obtain⟨dr,hR⟩:=id hR0
 obtain⟨as,hl,hA⟩:=HH.ra
 have nah:=hR0.nh0 HH
 have nab:=hR0.ne HH.bal (.inl ⟨_,rfl⟩)
 refine⟨_,rfl,⟨_,rfl,gR T hR rfl ?_⟩⟩
 refine⟨_,_,rfl,rfl,.inr ⟨by have:=hO.1.2.2.2;omega,by have:=hO.2.2.2;omega⟩,?_⟩
 refine⟨_,rfl,gH T hh rfl ⟨_,rfl,?_⟩⟩
 refine⟨by show 1≤sizeLine;decide,λp hp=>?_⟩
 have s3:Same H (upd H p (.lst [V.ref a])):=Same.upd hp
 have hp3:(upd H p (.lst [V.ref a])) p=some (.lst [V.ref a]):=zbG
 generalize (upd H p (.lst [V.ref a]))=H3 at s3 hp3 ⊢
 refine⟨lr,p,_,_,rfl,rfl,s3 _ _ hl,hp3,?_,λp2 hp2=>?_⟩
 ·rw[List.length_map,hA.1]
  exact Nat.le_of_lt (zb0 (show S.rights.length + 1≤1000 by omega))
 have s4:Same H3 (upd H3 p2 (.lst (as.map V.ref++[V.ref a]))):=Same.upd hp2
 have hp4:(upd H3 p2 (.lst (as.map V.ref++[V.ref a]))) p2=some (.lst (as.map V.ref++[V.ref a])):=zbG
 generalize (upd H3 p2 (.lst (as.map V.ref++[V.ref a])))=H5 at s4 hp4 ⊢
 have s15:=s3.trans s4
 have HH5:=HH.same s15
 have hh5:=HH5.obj
 have hR4:=RightsAt.push hl hA hR0 s15 hp4
 have hy5:=s15 _ _ hR
 refine⟨_,rfl,h,_,dx,_,rfl,hh5,T.clH,T.naH _ (by decide),by show 10 < 1000;decide,?_⟩
 have hy6:(upd H5 h (.ins A.cHouse dx (zdO "rights" (.ref p2) (zbY S ll lr lb bl)))) a=some (.ins A.cRight dr (zgo r)):=by rw[zbL nah];exact hy5
 refine⟨_,rfl,gR T hy6 rfl ⟨_,_,rfl,rfl,?_⟩⟩
 refine⟨_,rfl,h,_,dx,_,rfl,zbG,T.clH,T.naH _ (by decide),by show 10 < 1000;decide,?_⟩
 rw[zcg,hnum,show zdO "next_number" (V.int (((S.nextRight:Nat):Int) + 1)) (zdO "rights" (.ref p2) (zbY S ll lr lb bl))=zbY { S with rights:=S.rights++[r],nextRight:=S.nextRight + 1 } ll p2 lb bl from rfl]
 generalize hS6:({ S with rights:=S.rights++[r],nextRight:=S.nextRight + 1 }:House)=S6
 have h6:(upd H5 h (.ins A.cHouse dx (zbY S6 ll p2 lb bl))) h=some (.ins A.cHouse dx (zbY S6 ll p2 lb bl)):=zbG
 have k6:∀b,b≠h→(upd H5 h (.ins A.cHouse dx (zbY S6 ll p2 lb bl))) b=H5 b:=λb hb=>zbL hb
 generalize (upd H5 h (.ins A.cHouse dx (zbY S6 ll p2 lb bl)))=H6 at h6 k6 ⊢
 have nbh:=HH5.nbh
 have hy6:H6 a=some (.ins A.cRight dr (zgo r)):=by rw[k6 a nah];exact hy5
 refine⟨_,rfl,_,_,_,rfl,h6,rfl,⟨_,rfl,gR T hy6 rfl ⟨_,rfl,⟨_,_,rfl,rfl,?_⟩⟩⟩⟩
 refine⟨h,r.owner,_,rfl,hO.2.1,dx,S6,ll,p2,lb,bl,S.balances,h6,HH.good.bl,by rw[k6 bl nbh];exact HH5.bal,?_⟩
 have h7:(upd H6 bl (.lst ((Vbeman.pay S.balances r.owner (0 - pr * r.amount)).map V.int))) h=some (.ins A.cHouse dx (zbY S6 ll p2 lb bl)):=by rw[zbL (Ne.symm nbh)];exact h6
 have b7:(upd H6 bl (.lst ((Vbeman.pay S.balances r.owner (0 - pr * r.amount)).map V.int))) bl=some (.lst ((Vbeman.pay S.balances r.owner (-(pr * r.amount))).map V.int)):=by rw[zbG,Int.zero_sub]
 have k7:∀b,b≠h→b≠bl→(upd H6 bl (.lst ((Vbeman.pay S.balances r.owner (0 - pr * r.amount)).map V.int))) b=H5 b:=λb n1 n2=>by rw[zbL n2,k6 b n1]
 generalize (upd H6 bl (.lst ((Vbeman.pay S.balances r.owner (0 - pr * r.amount)).map V.int)))=H7 at h7 b7 k7 ⊢
 refine⟨_,rfl,gH T h7 rfl ⟨_,rfl,⟨_,_,rfl,rfl,?_⟩⟩⟩
 refine⟨_,rfl,h,_,dx,_,rfl,h7,T.clH,T.naH _ (by decide),by show 10 < 1000;decide,?_⟩
 have k8:∀b u,H5 b=some u→b≠h→b≠bl→(upd H7 h (.ins A.cHouse dx (zdO "sales" (.int (S6.sales + pr * r.amount)) (zbY S6 ll p2 lb bl)))) b=some u:=λb u e n1 n2=>by rw[zbL n1,k7 b n1 n2];exact e
 have np:ll≠p2:=by
  obtain⟨bs,e2,_⟩:=HH.la
  exact zbI (s3 _ _ e2) hp2
 have npb:p2≠bl:=(zbI (s3 _ _ HH.bal) hp2).symm
 have G4:=HH.good.grant (r:=r) hl30 hO hnum (bs:=Vbeman.pay S.balances r.owner (-(pr * r.amount))) (by rw[zd7];exact HH.good.bl) (S.sales + pr * r.amount)
 subst hS6
 exact q _ p2 (HH5.fin (ll':=ll) (lr':=p2) zbG (by rw[zbL nbh];exact b7) k8 HH5.la hR4 np HH.d2 npb G4 HH.d5) (s3.free hp2) (λb o e n1 n2=>k8 b o (s15 _ _ e) n1 n2)
def zir (mkc:Nat→Nat→Nat→Bool→Int→Int→Vbeman.Call) (nums:List (Str×Int)) (c:Vbeman.Call):Prop:=∃(o s t:Nat) (opt:Bool) (q p:Int),
 nums=([("owner",(o:Int)),("source",(s:Int)),("sink",(t:Int)),("kind",Vbeman.bit opt),("amount",q),("price",p)]:List (Str×Int))∧o < 8∧Amt q∧Prc p∧c=mkc o s t opt q p
abbrev zku:=top 86
abbrev zn5 (P:Program) (w:World) (K:PySem.W.Frag) (mg:Str→Option Value) (base:Heap) (A:Ad):Prop:=FnI P w K mg base "grant" 7 ["house","numbers"] (zce A (zir .grant))
theorem zoM (F:Fun K "grant" "grant" zku f fd) (T:Txt K mg A) (zbu:zeQ P w K mg base A) (zbA:zeV P w K mg base A) (zbx:zcH P w K mg base A) (zbw:zcT P w K mg base A) (zar:zhG P w K mg base A) (zaK:zdR P w K mg base A):FnOk P w K mg base CX0 7 f fd ["house","numbers"] (zce A (zir .grant)):=by
 have sc:FnScope ["house","numbers","owner","source","sink","amount","price","right"] ["house","numbers"] (zbK zku):=fsc
 refine F.ok sc (by rintro _ _ _ _ ⟨h,d,rfl,_⟩;rfl) λcdv Ar outer s H vs Q E hr h=>?_
 obtain⟨h,d,rfl,h⟩:=h
 refine⟨_,(zbC (zbP (i:=2) sc.nd rfl (by first | exact Or.inl rfl | exact Or.inr rfl) (zbS (zb8 hr) (pv 1) zbV (λ_ _=>rfl))) (zbC (zbP (i:=3) sc.nd rfl (by first | exact Or.inl rfl | exact Or.inr rfl) (zbS (zb8 hr) (pv 1) zbV (λ_ _=>rfl))) (zbC (zbP (i:=4) sc.nd rfl (by first | exact Or.inl rfl | exact Or.inr rfl) (zbS (zb8 hr) (pv 1) zbV (λ_ _=>rfl))) (zbC (zbP (i:=5) sc.nd rfl (by first | exact Or.inl rfl | exact Or.inr rfl) (zbS (zb8 hr) (pv 1) zbV (λ_ _=>rfl))) (zbC (zbP (i:=6) sc.nd rfl (by first | exact Or.inl rfl | exact Or.inr rfl) (zbS (zb8 hr) (pv 1) zbV (λ_ _=>rfl))) (zbC (zbU (zcW (zcy (zch zbx (hr.mono (by decide)) (pv 0) (zbB (pv 3) (zbB (pv 4) zbD))))) (zbF (zbJ (zbQ (zbB (zb6 T.i_NOT_THERE (by rfl)) zbD)))) zbM) (zbC (zbU (zbO zcs (zbT zcc (by rfl) T.n_len (by decide +kernel) (zbB (zbE (pv 0) rfl) zbD)) (zb6 T.i_MOST_RIGHTS (by rfl)) (zbR _)) (zbF (zbJ (zbQ (zbB (zb6 T.i_FULL (by rfl)) zbD)))) zbM) (zbC (zbU (zbO zeY (zch zbw (hr.mono (by decide)) (pv 0) (zbB (pv 2) zbD)) (zbH zar (hr.mono (by decide)) (by rfl) (zbB (pv 6) (zbB (pv 5) zbD))) (zbR _)) (zbF (zbJ (zbQ (zbB (zb6 T.i_TOO_DEAR (by rfl)) zbD)))) zbM) (zbC (zbP (i:=7) sc.nd rfl (by first | exact Or.inl rfl | exact Or.inr rfl) (zcI zbu (hr.mono (by decide)) (by rfl) (zbB (zbE (pv 0) rfl) (zbB (pv 2) (zbB (pv 3) (zbB (pv 4) (zbB (zbS (zb8 hr) (pv 1) zbV (λ_ _=>rfl)) (zbB (pv 5) zbD)))))))) (zbC (zbU (zcW (zcy (zbH zaK (hr.mono (by decide)) (by rfl) (zbB (zbE (pv 0) rfl) (zbB (zbE (pv 0) rfl) (zbB (zb2 zdw (zbE (pv 0) rfl) (zbQ (zbB (pv 7) zbD))) zbD)))))) (zbF (zbJ (zbQ (zbB (zb6 T.i_NOT_SAFE (by rfl)) zbD)))) zbM) (zbC (zcf (zch zbA (hr.mono (by decide)) (pv 0) (zbB (pv 7) (zbB (pv 6) zbD)))) (zbF (zbJ (zbQ (zbB zbN (zbB (zbE (pv 7) rfl) zbD)))))))))))))))),?_⟩
 obtain⟨dx,ll,lr,lb,bl,S,nums,c,HH,hd,⟨o,s',t,opt,am,pr,rfl,ho,ham,hpr,rfl⟩,q⟩:=h
 have hh:=HH.obj
 obtain⟨as,hl,hA⟩:=HH.ra
 refine⟨_,rfl,_,_,rfl,zdc hd,⟨_,rfl,_,_,rfl,zdc hd,⟨_,rfl,_,_,rfl,zdc hd,⟨_,rfl,_,_,rfl,zdc hd,⟨_,rfl,_,_,rfl,zdc hd,⟨_,rfl,_,_,_,rfl,hh,rfl,⟨_,rfl,⟨_,rfl,?_⟩⟩⟩⟩⟩⟩⟩⟩
 refine⟨h,s',t,rfl,dx,S,ll,lr,lb,bl,hh,_,rfl,?_⟩
 refine zb9 (λh1=>?_) (λh1=>?_)
 ·refine zbZ q HH (Same.refl _) (ans:=[-3]) ?_ rfl
  rw[zlj,if_pos (by simpa using h1)]
 have h1:¬Vbeman.badEnds S s' t=true:=by simpa using h1
 obtain⟨b1,b2,b3⟩:=zgj h1
 have eo:=zlj S o s' t opt am pr
 rw[if_neg h1] at eo
 refine⟨_,rfl,gH T hh rfl ?_⟩
 refine⟨_,_,rfl,.inl ⟨_,SqL.of hl,rfl⟩,rfl,_,rfl,?_⟩
 rw[List.length_map,hA.1]
 have hg:=HH.good.rl
 refine zb9 (λh2=>?_) (λh2=>?_)
 ·have h2:(S.rights.length:Int)=30:=by injection (of_decide_eq_true h2)
  refine zbZ q HH (Same.refl _) (ans:=[-5]) ?_ rfl
  rw[eo,if_pos (show Vbeman.RIGHTS≤S.rights.length by show 30≤_;omega)]
 have h2:¬(S.rights.length:Int)=30:=λz=>h2 (decide_eq_true (by rw[z]))
 rw[if_neg (show ¬Vbeman.RIGHTS≤S.rights.length by show ¬30≤_;omega)] at eo
 refine⟨_,rfl,_,_,_,rfl,hh,rfl,⟨_,rfl,?_⟩⟩
 refine⟨h,o,rfl,ho,dx,S,ll,lr,lb,bl,HH,λH1 s1=>?_⟩
 refine⟨_,rfl,⟨_,rfl,?_⟩⟩
 refine⟨_,_,rfl,ham,_,_,rfl,rfl,_,rfl,?_⟩
 have HH1:=HH.same s1
 have hh1:=HH1.obj
 have hd1:=s1 _ _ hd
 refine zb9 (λh3=>?_) (λh3=>?_)
 ·refine zbZ q HH s1 (ans:=[-6]) ?_ rfl
  rw[eo,if_pos (of_decide_eq_true h3)]
 have h3:¬Vbeman.free S o < max 0 pr * am:=λz=>h3 (decide_eq_true z)
 rw[if_neg h3] at eo
 refine⟨_,rfl,gH T hh1 rfl ⟨_,rfl,⟨_,rfl,⟨_,rfl,⟨_,rfl,_,_,rfl,zdc hd1,⟨_,rfl,zdC (r:=⟨S.nextRight,o,s',t,opt,am⟩) λH2 y ny sH2 aH2=>?_⟩⟩⟩⟩⟩⟩
 have s12:=s1.trans sH2
 have HH2:=HH.same s12
 have hh2:=HH2.obj
 refine⟨_,rfl,gH T hh2 rfl ⟨_,rfl,gH T hh2 rfl ⟨_,rfl,gH T hh2 rfl ⟨_,rfl,?_⟩⟩⟩⟩
 refine⟨by show 1≤sizeLine;decide,λp hp=>?_⟩
 have s3:Same H2 (upd H2 p (.lst [V.ref y])):=Same.upd hp
 have hp3:(upd H2 p (.lst [V.ref y])) p=some (.lst [V.ref y]):=zbG
 generalize (upd H2 p (.lst [V.ref y]))=H3 at s3 hp3 ⊢
 have hl3:=s3 _ _ (s12 _ _ hl)
 refine⟨lr,p,_,_,rfl,rfl,hl3,hp3,?_,λp2 hp2=>?_⟩
 ·rw[List.length_map,hA.1]
  exact Nat.le_of_lt (zb0 (show S.rights.length + 1≤1000 by omega))
 have s4:Same H3 (upd H3 p2 (.lst (as.map V.ref++[V.ref y]))):=Same.upd hp2
 have hp4:(upd H3 p2 (.lst (as.map V.ref++[V.ref y]))) p2=some (.lst (as.map V.ref++[V.ref y])):=zbG
 generalize (upd H3 p2 (.lst (as.map V.ref++[V.ref y])))=H4 at s4 hp4 ⊢
 have s24:=s3.trans s4
 have s14:=s12.trans s24
 have HH4:=HH.same s14
 have hR4:=RightsAt.push (s12 _ _ hl) (hA.imp λc x z=>z.same s12) aH2 s24 hp4
 have hO:OneOk S.zones (S.nextRight + 1) ⟨S.nextRight,o,s',t,opt,am⟩:=⟨⟨b1,b2,b3,ham.1⟩,ho,Nat.lt_succ_self _,ham.2⟩
 have G4:=HH.good.grant (r:=⟨S.nextRight,o,s',t,opt,am⟩) (by omega) hO rfl (bs:=Vbeman.pay S.balances o (-(pr * am))) (by rw[zd7];exact HH.good.bl) (S.sales + pr * am)
 have hN:NetAt A H4 ll p2 S.lines (S.rights++[⟨S.nextRight,o,s',t,opt,am⟩]):=⟨HH4.la,hR4,HH.good.okL,G4.okR,Nat.le_trans HH.good.ll (by decide),Nat.le_trans G4.rl (by decide)⟩
 refine⟨S.zones,ll,p2,rfl,_,_,HH.good.z6,hN,λH5 s5=>⟨_,rfl,?_⟩⟩
 have s15:=s14.trans s5
 refine zb9 (λh4=>?_) (λh4=>?_)
 ·refine zbZ q HH s15 (ans:=[-7]) ?_ rfl
  rw[eo,if_pos (by simpa using h4)]
 rw[if_neg (by simpa using h4)] at eo
 rw[eo] at q
 have HH5:=HH.same s15
 have hh5:=HH5.obj
 have hy5:=(aH2.same s24).same s5
 have nyh:=hy5.nh0 HH5
 have nyb:=hy5.ne HH5.bal (.inl ⟨_,rfl⟩)
 refine⟨_,rfl,_,_,_,rfl,hh5,rfl,⟨_,rfl,⟨_,rfl,?_⟩⟩⟩
 refine⟨h,y,pr,rfl,dx,ll,lr,lb,bl,S,_,HH5,hy5,rfl,hO,by omega,λH6 lr6 HH6 hl6 k6=>?_⟩
 obtain⟨dy5,hy5'⟩:=hy5
 have hy6:=k6 _ _ hy5' nyh nyb
 refine⟨_,rfl,gR T hy6 rfl ?_⟩
 exact zcZ q (dx:=dx) (ll1:=ll) (lr1:=lr6) (lb1:=lb) (bl1:=bl) HH6 (zec s15 k6 (.inl rfl) (.inr (s15.free hl6))) rfl
end
end Z
namespace Z
open PySem PySem.Spec PyProof.Rows L2
open Vbeman (Line Right House Bid)
theorem zoB {S:House} {k b:Nat} {q p:Int} (h:Vbeman.find S k=none):Vbeman.onHouse S (.pass k b q p)=(S,[-3]):=by
 show (match Vbeman.find S k with | none=>_ | some r=>_)=_
 rw[h]
theorem zpY {S:House} {k b:Nat} {q p:Int} {r:Right} (h:Vbeman.find S k=some r):Vbeman.onHouse S (.pass k b q p)=if r.amount < q∨b=r.owner then (S,[-4]) else if q < r.amount∧Vbeman.RIGHTS≤S.rights.length then (S,[-5]) else
  if (0 < p * q∧Vbeman.free S b < p * q)∨(p * q < 0∧Vbeman.free S r.owner < -(p * q)) then (S,[-6]) else
  ({ S with rights:=(Vbeman.parted S r b q).1,nextRight:=if q=r.amount then S.nextRight else S.nextRight + 1,balances:=Vbeman.pay (Vbeman.pay S.balances b (-(p * q))) r.owner (p * q) },[0,((Vbeman.parted S r b q).2:Int)]):=by
 show (match Vbeman.find S k with | none=>_ | some r=>_)=_
 rw[h]
def OneAll (z nx:Nat) (l:List Right):Prop:=∀r∈l,OneOk z nx r
theorem OneAll.set {z nx:Nat} {l:List Right} (h:OneAll z nx l) {k:Nat} {q:Int} (hq:q≤1000000000):OneAll z nx (Vbeman.setAmount l k q):=λx hx=>by
 obtain⟨r,hr,rfl | ⟨_,h1,rfl⟩⟩:=zfA hx
 ·exact h _ hr
 ·exact (h r hr).amount h1 hq
theorem OneAll.next {z nx nx':Nat} {l:List Right} (h:OneAll z nx l) (hn:nx≤nx'):OneAll z nx' l:=λx hx=>(h x hx).next hn
theorem OneAll.app {z nx:Nat} {l:List Right} (h:OneAll z nx l) {r:Right} (hr:OneOk z nx r):OneAll z nx (l++[r]):=λx hx=>by
 rcases List.mem_append.mp hx with hx | hx
 ·exact h x hx
 ·rw[List.mem_singleton.mp hx];exact hr
theorem Good.all {S:House} (g:Good S):OneAll S.zones S.nextRight S.rights:=g.ro
theorem Good.to {S:House} (g:Good S) {rs:List Right} {nx:Nat} {bs:List Int} (hl:rs.length≤30) (ho:OneAll S.zones nx rs) (hn:(ze1 rs).Nodup) (hb:bs.length=8):Good { S with rights:=rs,nextRight:=nx,balances:=bs } :=
 ⟨g.z2,g.z6,g.ll,hl,g.lo,ho,hn,hb,g.nb⟩
theorem ziC (l:List Right) (k o:Nat):ze1 (zcP l k o)=ze1 l:=by
 unfold zcP ze1
 rw[List.map_map]
 refine List.map_congr_left λr _=>?_
 show (if r.number=k then ({ r with owner:=o }:Right) else r).number=r.number
 split <;> rfl
theorem OneAll.owner {z nx:Nat} {l:List Right} (h:OneAll z nx l) {k o:Nat} (ho:o < 8):OneAll z nx (zcP l k o):=λx hx=>by
 obtain⟨r,hr,e⟩:=List.mem_map.mp hx
 have:=h r hr
 split at e
 ·rw[←e];exact⟨this.1,ho,this.2.2.1,this.2.2.2⟩
 ·rw[←e];exact this
section
variable {P : Program} {w : World} {K : PySem.W.Frag} {mg : Str → Option Value} {base : Heap} {A : Ad} {f : Addr} {fd : FuncData}
def zk6 (A:Ad):Sp:=λvs H Q _=>∃(h:Addr) (b o:Nat) (c:Int),vs=[.ref h,.int b,.int o,.int c]∧b < 8∧o < 8∧∃dx S ll lr lb bl,HouseAt A H h dx ll lr lb bl S∧∀H',Same H H'→Q (.bl (!decide ((0 < c∧Vbeman.free S b < c)∨(c < 0∧Vbeman.free S o < -c)))) H'
abbrev zha:=top 100
abbrev zkk (P:Program) (w:World) (K:PySem.W.Frag) (mg:Str→Option Value) (base:Heap) (A:Ad):Prop:=FnI P w K mg base "can_pay" 4 ["house","buyer","owner","cost"] (zk6 A)
theorem zl4 (F:Fun K "can_pay" "can_pay" zha f fd) (T:Txt K mg A) (zbw:zcT P w K mg base A):FnOk P w K mg base CX0 4 f fd ["house","buyer","owner","cost"] (zk6 A):=by
 have sc:FnScope ["house","buyer","owner","cost"] ["house","buyer","owner","cost"] (zbK zha):=fsc
 refine F.ok sc (by rintro _ _ _ _ ⟨h,b,o,c,rfl,_⟩;rfl) λcdv Ar outer s H vs Q E hr h=>?_
 obtain⟨h,b,o,c,rfl,h⟩:=h
 refine⟨_,(zbC (zbU (zbO zhe (pv 3) zbN (zbR _)) (zbF (zbJ (zcN zhK (pv 3) (zch zbw (hr.mono (by decide)) (pv 0) (zbB (pv 1) zbD)) (zbR _)))) zbM) (zbC (zbU (zbO zeY (pv 3) zbN (zbR _)) (zbF (zbJ (zcN zhK (zb2 zcz zbN (pv 3)) (zch zbw (hr.mono (by decide)) (pv 0) (zbB (pv 2) zbD)) (zbR _)))) zbM) (zbF (zbJ zou)))),?_⟩
 obtain⟨hb,ho,dx,S,ll,lr,lb,bl,HH,q⟩:=h
 have hh:=HH.obj
 refine⟨_,rfl,⟨_,_,rfl,rfl,⟨_,rfl,zb9 (λh1=>?_) (λh1=>?_)⟩⟩⟩
 ·have h1:0 < c:=of_decide_eq_true h1
  refine⟨_,rfl,⟨_,rfl,_,_,_,rfl,hh,rfl,⟨_,rfl,?_⟩⟩⟩
  refine⟨h,b,rfl,hb,dx,S,ll,lr,lb,bl,HH,λH1 s1=>⟨_,_,rfl,rfl,?_⟩⟩
  have e:(!decide ((0 < c∧Vbeman.free S b < c)∨(c < 0∧Vbeman.free S o < -c)))=decide (c≤Vbeman.free S b):=by
   rw[Bool.eq_iff_iff,Bool.not_eq_true',decide_eq_false_iff_not,decide_eq_true_iff]
   omega
  rw[e] at q
  exact q _ s1
 ·have h1:¬0 < c:=λz=>h1 (decide_eq_true z)
  refine⟨_,rfl,⟨_,_,rfl,rfl,⟨_,rfl,zb9 (λh2=>?_) (λh2=>?_)⟩⟩⟩
  ·have h2:c < 0:=of_decide_eq_true h2
   refine⟨_,rfl,⟨_,_,rfl,rfl,⟨_,rfl,_,_,_,rfl,hh,rfl,⟨_,rfl,?_⟩⟩⟩⟩
   refine⟨h,o,rfl,ho,dx,S,ll,lr,lb,bl,HH,λH1 s1=>⟨_,_,rfl,rfl,?_⟩⟩
   have e:(!decide ((0 < c∧Vbeman.free S b < c)∨(c < 0∧Vbeman.free S o < -c)))=decide (0 - c≤Vbeman.free S o):=by
    rw[Bool.eq_iff_iff,Bool.not_eq_true',decide_eq_false_iff_not,decide_eq_true_iff]
    omega
   rw[e] at q
   exact q _ s1
  ·have h2:¬c < 0:=λz=>h2 (decide_eq_true z)
   have e:(!decide ((0 < c∧Vbeman.free S b < c)∨(c < 0∧Vbeman.free S o < -c)))=true:=by
    rw[Bool.not_eq_true',decide_eq_false_iff_not]
    omega
   rw[e] at q
   exact q _ (Same.refl _)
theorem HouseAt.paid {H:Hp} {h dx ll lr lb bl:Addr} {S:House} (x:HouseAt A H h dx ll lr lb bl S) {bs:List Int} (hb:bs.length=8):HouseAt A (upd H bl (.lst (bs.map V.int))) h dx ll lr lb bl { S with balances:=bs }:=by
 have g:=x.good
 refine x.fin (ll':=ll) (lr':=lr) (by rw[zbL (Ne.symm x.nbh)];exact x.obj) zbG (λb o e n1 n2=>by rw[zbL n2];exact e) x.la x.ra x.d1 x.d2 x.d3 ⟨g.z2,g.z6,g.ll,g.rl,g.lo,g.ro,g.nd,hb,g.nb⟩
theorem zho {H:Hp} {h ll lr lb bl:Addr} {o:HO}:zit h ll lr lb bl H ll lr lb bl (upd H bl o):=by
 show Same _ (zeo _ (upd H bl o))
 rw[zi8 (List.mem_cons_of_mem _ (List.mem_cons_of_mem _ (List.mem_cons_of_mem _ (List.mem_cons_of_mem _ (List.mem_cons_self ..)))))]
 exact Same.refl _
theorem RightAt.paid {H:Hp} {h dx ll lr lb bl a:Addr} {S:House} {r:Right} (x:HouseAt A H h dx ll lr lb bl S) (z:RightAt A H a r) (o:HO):RightAt A (upd H bl o) a r:=by
 have n:=z.ne x.bal (.inl ⟨_,rfl⟩)
 obtain⟨d,e⟩:=z
 exact⟨d,by rw[zbL n];exact e⟩
theorem RightAt.nh {H:Hp} {h dx ll lr lb bl a:Addr} {S:House} {r:Right} (z:RightAt A H a r) (x:HouseAt A H h dx ll lr lb bl S):a≠h:=z.ne x.obj (.inr ⟨_,_,_,_,_,_,_,rfl⟩)
def zh7 (A:Ad):Sp:=λvs H Q _=>∃(h a:Addr) (b:Nat) (qa:Int),vs=[.ref h,.ref a,.int b,.int qa]∧b < 8∧∃dx S ll lr lb bl r,HouseAt A H h dx ll lr lb bl S∧RightAt A H a r∧r∈S.rights∧1≤qa∧qa≤r.amount∧(qa < r.amount→S.rights.length < 30) ∧
 ∀H' lr',HouseAt A H' h dx ll lr' lb bl { S with rights:=(Vbeman.parted S r b qa).1,nextRight:=if qa=r.amount then S.nextRight else S.nextRight + 1 }→zit h ll lr lb bl H ll lr' lb bl H'→Q (.int ((Vbeman.parted S r b qa).2:Nat)) H'
abbrev zfg:=top 101
abbrev zhC (P:Program) (w:World) (K:PySem.W.Frag) (mg:Str→Option Value) (base:Heap) (A:Ad):Prop:=FnI P w K mg base "hand_over" 4 ["house","right","buyer","amount"] (zh7 A)
theorem zjP (F:Fun K "hand_over" "hand_over" zfg f fd) (T:Txt K mg A) (zbl:zcx P w K mg base A) (zbn:zgv P w K mg base A) (zbu:zeQ P w K mg base A):FnOk P w K mg base CX0 4 f fd ["house","right","buyer","amount"] (zh7 A):=by
 have sc:FnScope ["house","right","buyer","amount","number","rights"] ["house","right","buyer","amount"] (zbK zfg):=fsc
 refine F.ok sc (by rintro _ _ _ _ ⟨h,a,b,qa,rfl,_⟩;rfl) λcdv Ar outer s H vs Q E hr h=>?_
 obtain⟨h,a,b,qa,rfl,h⟩:=h
 refine⟨_,(zbC (zbU (zbO zcs (zbE (pv 1) rfl) (pv 3) (zbR _)) (zbC (zbX (pv 0) (zbH zbn (hr.mono (by decide)) (by rfl) (zbB (zbE (pv 0) rfl) (zbB (zbE (pv 1) rfl) (zbB (pv 2) zbD)))) rfl) (zbF (zbJ (zbE (pv 1) rfl)))) zbM) (zbC (zbP (i:=4) sc.nd rfl (by first | exact Or.inl rfl | exact Or.inr rfl) (zbE (pv 0) rfl)) (zbC (zbP (i:=5) sc.nd rfl (by first | exact Or.inl rfl | exact Or.inr rfl) (zbH zbl (hr.mono (by decide)) (by rfl) (zbB (zbE (pv 0) rfl) (zbB (zbE (pv 1) rfl) (zbB (zb2 zcz (zbE (pv 1) rfl) (pv 3)) zbD))))) (zbC (zbX (pv 0) (zb2 zdw (pv 5) (zbQ (zbB (zcI zbu (hr.mono (by decide)) (by rfl) (zbB (pv 4) (zbB (pv 2) (zbB (zbE (pv 1) rfl) (zbB (zbE (pv 1) rfl) (zbB (zbE (pv 1) rfl) (zbB (pv 3) zbD))))))) zbD))) rfl) (zbC (zbX (pv 0) (zb2 zcK (pv 4) zbN) rfl) (zbF (zbJ (pv 4)))))))),?_⟩
 obtain⟨hb,dx,S,ll,lr,lb,bl,r,HH,hR0,hm,hq1,hq2,hq3,q⟩:=h
 have hh:=HH.obj
 obtain⟨dr,hR⟩:=id hR0
 have hO:=HH.good.all r hm
 unfold Vbeman.parted at q
 refine⟨_,rfl,gR T hR rfl ⟨_,rfl,⟨rfl,_,rfl,zb9 (λh1=>?_) (λh1=>?_)⟩⟩⟩
 ·have h1:qa=r.amount:=by injection (of_decide_eq_true h1) with z;exact z.symm
  rw[if_pos h1,if_pos h1] at q
  refine⟨_,rfl,gH T hh rfl ⟨_,rfl,gR T hR rfl ⟨_,rfl,?_⟩⟩⟩
  refine⟨lr,r.number,b,rfl,S.rights,Nat.le_trans HH.good.rl (by decide),HH.ra,λH1 p1 s1 hp1 h1'=>?_⟩
  have HH1:=HH.same s1
  have hh1:=HH1.obj
  refine⟨_,rfl,h,_,dx,_,rfl,hh1,T.clH,T.naH _ (by decide),by show 10 < 1000;decide,?_⟩
  have hR1:=(hR0.same s1)
  have nh:=hR1.nh HH1
  obtain⟨dr1,hR1⟩:=hR1
  have hR2:(upd H1 h (.ins A.cHouse dx (zdO "rights" (.ref p1) (zbY S ll lr lb bl)))) a=some (.ins A.cRight dr1 (zgo r)):=by rw[zbL nh];exact hR1
  refine⟨_,rfl,gR T hR2 rfl ?_⟩
  have np:ll≠p1:=by
   obtain⟨bs,e2,_⟩:=HH.la
   exact zbI e2 hp1
  have G1:Good { S with rights:=zcP S.rights r.number b }:=HH.good.to (nx:=S.nextRight) (bs:=S.balances) (by unfold zcP;rw[List.length_map];exact HH.good.rl) (HH.good.all.owner hb) (by rw[ziC];exact HH.good.nd) HH.good.bl
  exact q _ p1 (HH1.fin (ll':=ll) (lr':=p1) zbG (by rw[zbL HH1.nbh];exact HH1.bal) zb7 HH1.la h1' np HH.d2 (zbI HH.bal hp1).symm G1) (zec s1 zb7 (.inl rfl) (.inr hp1))
 ·have h1:¬qa=r.amount:=λz=>h1 (decide_eq_true (by rw[z]))
  rw[if_neg h1,if_neg h1] at q
  refine⟨_,rfl,gH T hh rfl ⟨_,rfl,gH T hh rfl ⟨_,rfl,gR T hR rfl ⟨_,rfl,gR T hR rfl ⟨_,rfl,⟨_,_,rfl,rfl,?_⟩⟩⟩⟩⟩⟩
  refine⟨lr,r.number,_,rfl,S.rights,Nat.le_trans HH.good.rl (by decide),HH.ra,λH1 p1 s1 hp1 h1'=>?_⟩
  have hR1:=s1 _ _ hR
  have HH1:=HH.same s1
  obtain⟨as,hl,hA⟩:=h1'
  refine⟨_,rfl,⟨_,rfl,⟨_,rfl,⟨_,rfl,gR T hR1 rfl ⟨_,rfl,gR T hR1 rfl ⟨_,rfl,gR T hR1 rfl ⟨_,rfl,zdC (r:={r with number:=S.nextRight,owner:=b,amount:=qa}) λH2 y ny sH2 aH2=>?_⟩⟩⟩⟩⟩⟩⟩
  refine⟨by show 1≤sizeLine;decide,λp hp=>?_⟩
  have s3:Same H2 (upd H2 p (.lst [V.ref y])):=Same.upd hp
  have hp3:(upd H2 p (.lst [V.ref y])) p=some (.lst [V.ref y]):=zbG
  generalize (upd H2 p (.lst [V.ref y]))=H3 at s3 hp3 ⊢
  have hl3:=s3 _ _ (sH2 _ _ hl)
  have hlen:(Vbeman.setAmount S.rights r.number (r.amount - qa)).length≤29:=by
   have:=zcv S.rights r.number (r.amount - qa)
   have:=hq3 (by omega)
   omega
  refine⟨p1,p,_,_,rfl,rfl,hl3,hp3,?_,λp2 hp2=>?_⟩
  ·rw[List.length_map,hA.1]
   exact Nat.le_of_lt (zb0 (show _ + 1≤1000 by omega))
  have s4:Same H3 (upd H3 p2 (.lst (as.map V.ref++[V.ref y]))):=Same.upd hp2
  have hp4:(upd H3 p2 (.lst (as.map V.ref++[V.ref y]))) p2=some (.lst (as.map V.ref++[V.ref y])):=zbG
  generalize (upd H3 p2 (.lst (as.map V.ref++[V.ref y])))=H4 at s4 hp4 ⊢
  have s24:=s3.trans s4
  have s14:=sH2.trans s24
  have s04:=s1.trans s14
  have HH4:=HH.same s04
  have hh4:=HH4.obj
  have hR4:=RightsAt.push (sH2 _ _ hl) (hA.imp λc x z=>z.same sH2) aH2 s24 hp4
  refine⟨_,rfl,h,_,dx,_,rfl,hh4,T.clH,T.naH _ (by decide),by show 10 < 1000;decide,?_⟩
  refine⟨_,rfl,⟨_,_,rfl,rfl,?_⟩⟩
  refine⟨_,rfl,h,_,dx,_,rfl,zbG,T.clH,T.naH _ (by decide),by show 10 < 1000;decide,?_⟩
  rw[zcg]
  refine⟨_,rfl,?_⟩
  have np:ll≠p2:=by
   obtain⟨bs,e2,_⟩:=HH.la
   exact zbI (s3 _ _ (sH2 _ _ (s1 _ _ e2))) hp2
  have npb:p2≠bl:=(zbI (s3 _ _ (sH2 _ _ (s1 _ _ HH.bal))) hp2).symm
  have hsub:=zc8 S.rights r.number (r.amount - qa)
  have G4:Good { S with rights:=Vbeman.setAmount S.rights r.number (r.amount - qa)++[{ r with number:=S.nextRight,owner:=b,amount:=qa }],nextRight:=S.nextRight + 1 }:=by
   refine HH.good.to (bs:=S.balances) ?_ (OneAll.app ((HH.good.all.set (by have:=hO.2.2.2;omega)).next (Nat.le_succ _)) ⟨⟨hO.1.1,hO.1.2.1,hO.1.2.2.1,hq1⟩,hb,Nat.lt_succ_self _,by have:=hO.2.2.2;show qa≤1000000000;omega⟩) (zfG (HH.good.nd.sublist hsub) (λx hx=>?_) rfl) HH.good.bl
   ·rw[List.length_append,List.length_singleton];omega
   ·exact ((HH.good.all.set (by have:=hO.2.2.2;omega)) x hx).2.2.1
  exact q _ p2 (HH4.fin (ll':=ll) (lr':=p2) zbG (by rw[zbL HH4.nbh];exact HH4.bal) zb7 HH4.la hR4 np HH.d2 npb G4) (zec s04 zb7 (.inl rfl) (.inr (((s1.trans sH2).trans s3).free hp2)))
def zqp (nums:List (Str×Int)) (c:Vbeman.Call):Prop:=∃(k b:Nat) (q p:Int),nums=([("right",(k:Int)),("buyer",(b:Int)),("amount",q),("price",p)]:List (Str×Int))∧b < 8∧Amt q∧Prc p∧c=.pass k b q p
abbrev zg6:=top 99
abbrev zkj (P:Program) (w:World) (K:PySem.W.Frag) (mg:Str→Option Value) (base:Heap) (A:Ad):Prop:=FnI P w K mg base "pass_on" 5 ["house","numbers"] (zce A zqp)
theorem zl0 (F:Fun K "pass_on" "pass_on" zg6 f fd) (T:Txt K mg A) (zax:zb1 P w K mg base A) (zbz:zdA P w K mg base A) (zao:zkk P w K mg base A) (zaD:zhC P w K mg base A):FnOk P w K mg base CX0 5 f fd ["house","numbers"] (zce A zqp):=by
 have sc:FnScope ["house","numbers","right","buyer","amount","cost"] ["house","numbers"] (zbK zg6):=fsc
 refine F.ok sc (by rintro _ _ _ _ ⟨h,d,rfl,_⟩;rfl) λcdv Ar outer s H vs Q E hr h=>?_
 obtain⟨h,d,rfl,h⟩:=h
 refine⟨_,(zbC (zbP (i:=2) sc.nd rfl (by first | exact Or.inl rfl | exact Or.inr rfl) (zbH zax (hr.mono (by decide)) (by rfl) (zbB (zbE (pv 0) rfl) (zbB (zbS (zb8 hr) (pv 1) zbV (λ_ _=>rfl)) zbD)))) (zbC (zbP (i:=3) sc.nd rfl (by first | exact Or.inl rfl | exact Or.inr rfl) (zbS (zb8 hr) (pv 1) zbV (λ_ _=>rfl))) (zbC (zbP (i:=4) sc.nd rfl (by first | exact Or.inl rfl | exact Or.inr rfl) (zbS (zb8 hr) (pv 1) zbV (λ_ _=>rfl))) (zbC (zbP (i:=5) sc.nd rfl (by first | exact Or.inl rfl | exact Or.inr rfl) (zb2 zgr (zbS (zb8 hr) (pv 1) zbV (λ_ _=>rfl)) (pv 4))) (zbC (zbU (zdu (zdB (pv 2))) (zbF (zbJ (zbQ (zbB (zb6 T.i_NOT_THERE (by rfl)) zbD)))) zbM) (zbC (zbU (PW.pt (zfD (zbO zeY (zbE (pv 2) rfl) (pv 4) (zbR _)) (zeh (zbO zcs (zbE (pv 2) rfl) (pv 3) (zbR _))))) (zbF (zbJ (zbQ (zbB (zb6 T.i_NOT_FITTING (by rfl)) zbD)))) zbM) (zbC (zbU (PW.pt (zif (zbO zhe (zbE (pv 2) rfl) (pv 4) (zbR _)) (zf4 (zbO zcs (zbT zcc (by rfl) T.n_len (by decide +kernel) (zbB (zbE (pv 0) rfl) zbD)) (zb6 T.i_MOST_RIGHTS (by rfl)) (zbR _))))) (zbF (zbJ (zbQ (zbB (zb6 T.i_FULL (by rfl)) zbD)))) zbM) (zbC (zbU (zcW (zcy (zbH zao (hr.mono (by decide)) (by rfl) (zbB (pv 0) (zbB (pv 3) (zbB (zbE (pv 2) rfl) (zbB (pv 5) zbD))))))) (zbF (zbJ (zbQ (zbB (zb6 T.i_TOO_DEAR (by rfl)) zbD)))) zbM) (zbC (zcf (zch zbz (hr.mono (by decide)) (pv 0) (zbB (pv 3) (zbB (zb2 zcz zbN (pv 5)) zbD)))) (zbC (zcf (zch zbz (hr.mono (by decide)) (pv 0) (zbB (zbE (pv 2) rfl) (zbB (pv 5) zbD)))) (zbF (zbJ (zbQ (zbB zbN (zbB (zbH zaD (hr.mono (by decide)) (by rfl) (zbB (pv 0) (zbB (pv 2) (zbB (pv 3) (zbB (pv 4) zbD))))) zbD))))))))))))))),?_⟩
 obtain⟨dx,ll,lr,lb,bl,S,nums,c,HH,hd,⟨k,b,am,pr,rfl,hb,ham,hpr,rfl⟩,q⟩:=h
 have hh:=HH.obj
 obtain⟨as,hl,hA⟩:=HH.ra
 refine⟨_,rfl,gH T hh rfl ⟨_,rfl,_,_,rfl,zdc hd,?_⟩⟩
 refine zci T HH.ra λv hv=>?_
 refine⟨_,rfl,_,_,rfl,zdc hd,⟨_,rfl,_,_,rfl,zdc hd,⟨_,rfl,_,_,rfl,zdc hd,⟨_,rfl,?_⟩⟩⟩⟩
 refine⟨_,_,rfl,rfl,.inr ⟨by have:=ham.1;omega,by have:=ham.2;omega⟩,?_⟩
 refine⟨_,rfl,?_⟩
 cases e:Vbeman.find S k with
 | none =>
  rw[show (S.rights.find? λr=>r.number == k)=none from e] at hv
  have hv:v=.non:=hv
  subst hv
  refine⟨_,rfl,zgc ?_⟩
  exact zbZ q HH (Same.refl _) (zoB e) rfl
 | some r =>
  rw[show (S.rights.find? λr=>r.number == k)=some r from e] at hv
  obtain⟨a,rfl,dr,hR⟩:=hv
  obtain⟨hm,hk,hO⟩:=zhq HH.good e
  have eo:=zpY (b:=b) (q:=am) (p:=pr) e
  have bad:(r.amount < am∨b=r.owner)→([V.int (-4)].length≤sizeLine∧∀p,H p=none→Q (.ref p) (upd H p (.lst [V.int (-4)]))):=λhc=>zbZ q HH (Same.refl _) (ans:=[-4]) (by rw[eo,if_pos hc]) rfl
  refine⟨_,rfl,zi7 ?_⟩
  refine⟨_,rfl,gR T hR rfl ⟨_,rfl,⟨_,_,rfl,rfl,⟨_,rfl,zb9 (λh1=>?_) (λh1=>?_)⟩⟩⟩⟩
  ·exact bad (.inl (of_decide_eq_true h1))
  have h1:¬r.amount < am:=λz=>h1 (decide_eq_true z)
  refine⟨_,rfl,gR T hR rfl ⟨_,rfl,⟨rfl,_,rfl,zb9 (λh2=>?_) (λh2=>?_)⟩⟩⟩
  ·exact bad (.inr (by have:=of_decide_eq_true h2;injection this with z;omega))
  have h2:¬b=r.owner:=λz=>h2 (decide_eq_true (by rw[z]))
  rw[if_neg (by omega)] at eo
  have hg:=HH.good.rl
  by_cases hf:am < r.amount∧S.rights.length=30
  ·refine⟨_,rfl,gR T hR rfl ⟨_,rfl,⟨_,_,rfl,rfl,⟨_,rfl,?_⟩⟩⟩⟩
   refine zb9 (λ_=>?_) (λz=>absurd (decide_eq_true hf.1) z)
   refine⟨_,rfl,gH T hh rfl ?_⟩
   refine⟨_,_,rfl,.inl ⟨_,SqL.of hl,rfl⟩,rfl,_,rfl,?_⟩
   rw[List.length_map,hA.1]
   refine zb9 (λ_=>?_) (λz=>absurd (decide_eq_true (by rw[hf.2];rfl)) z)
   exact zbZ q HH (Same.refl _) (ans:=[-5]) (by rw[eo,if_pos ⟨hf.1,show 30≤S.rights.length by omega⟩]) rfl
  ·refine (λgo=>?main:?T→_) ?go
   case main =>
    refine⟨_,rfl,gR T hR rfl ⟨_,rfl,⟨_,_,rfl,rfl,⟨_,rfl,zb9 (λh3=>?_) (λh3=>?_)⟩⟩⟩⟩
    ·refine⟨_,rfl,gH T hh rfl ?_⟩
     refine⟨_,_,rfl,.inl ⟨_,SqL.of hl,rfl⟩,rfl,_,rfl,?_⟩
     rw[List.length_map,hA.1]
     refine zb9 (λh4=>?_) (λh4=>?_)
     ·clear go
      exact absurd ⟨of_decide_eq_true h3,by have:=of_decide_eq_true h4;injection this with z;omega⟩ hf
     ·exact go
    ·refine zi7 ?_
     exact go
   case go =>
    rw[if_neg (λz=>hf ⟨z.1,by have:30≤S.rights.length:=z.2;omega⟩)] at eo
    refine⟨_,rfl,⟨_,rfl,⟨_,rfl,gR T hR rfl ⟨_,rfl,?_⟩⟩⟩⟩
    refine⟨h,b,r.owner,pr * am,rfl,hb,hO.2.1,dx,S,ll,lr,lb,bl,HH,λH1 s1=>⟨_,rfl,?_⟩⟩
    refine zb9 (λh5=>?_) (λh5=>?_)
    ·exact zbZ q HH s1 (ans:=[-6]) (by rw[eo,if_pos (by simpa using h5)]) rfl
    ·rw[if_neg (by simpa using h5)] at eo
     rw[eo] at q
     have HH1:=HH.same s1
     have hh1:=HH1.obj
     have hR1:RightAt A H1 a r:=⟨dr,s1 _ _ hR⟩
     refine⟨_,rfl,_,_,_,rfl,hh1,rfl,⟨_,rfl,⟨_,rfl,⟨_,_,rfl,rfl,?_⟩⟩⟩⟩
     refine⟨h,b,_,rfl,hb,dx,S,ll,lr,lb,bl,S.balances,hh1,HH.good.bl,HH1.bal,?_⟩
     rw[Int.zero_sub]
     have HH2:=HH1.paid (bs:=Vbeman.pay S.balances b (-(pr * am))) (by rw[zd7];exact HH.good.bl)
     have K2:zit h ll lr lb bl H1 ll lr lb bl (upd H1 bl (.lst ((Vbeman.pay S.balances b (-(pr * am))).map V.int))):=zho
     have hR2:=RightAt.paid HH1 hR1 (.lst ((Vbeman.pay S.balances b (-(pr * am))).map V.int))
     generalize (upd H1 bl (.lst ((Vbeman.pay S.balances b (-(pr * am))).map V.int)))=H2 at HH2 K2 hR2 ⊢
     have hh2:=HH2.obj
     obtain⟨dr2,hR2'⟩:=id hR2
     refine⟨_,rfl,_,_,_,rfl,hh2,rfl,⟨_,rfl,gR T hR2' rfl ⟨_,rfl,?_⟩⟩⟩
     refine⟨h,r.owner,_,rfl,hO.2.1,dx,_,ll,lr,lb,bl,_,hh2,by rw[zd7];exact HH.good.bl,HH2.bal,?_⟩
     have HH3:=HH2.paid (bs:=Vbeman.pay (Vbeman.pay S.balances b (-(pr * am))) r.owner (pr * am)) (by rw[zd7,zd7];exact HH.good.bl)
     have K3:zit h ll lr lb bl H2 ll lr lb bl (upd H2 bl (.lst ((Vbeman.pay (Vbeman.pay S.balances b (-(pr * am))) r.owner (pr * am)).map V.int))):=zho
     have hR3:=RightAt.paid HH2 hR2 (.lst ((Vbeman.pay (Vbeman.pay S.balances b (-(pr * am))) r.owner (pr * am)).map V.int))
     generalize (upd H2 bl (.lst ((Vbeman.pay (Vbeman.pay S.balances b (-(pr * am))) r.owner (pr * am)).map V.int)))=H3 at HH3 K3 hR3 ⊢
     refine⟨_,rfl,⟨_,rfl,⟨_,rfl,⟨_,rfl,?_⟩⟩⟩⟩
     refine⟨h,a,b,am,rfl,hb,dx,_,ll,lr,lb,bl,r,HH3,hR3,hm,ham.1,by omega,λz=>by have:S.rights.length≠30:=λy=>hf ⟨z,y⟩;show S.rights.length < 30;omega,λH4 lr4 HH4 K4=>?_⟩
     exact zcZ q HH4 (((zcd s1).trans (K2.trans K3)).trans K4) rfl
end
end Z
namespace Z
open PySem PySem.Spec PyProof.Rows L2
open Vbeman (Line Right House Bid)
theorem zli {S:House} {k m:Nat} (h:Vbeman.find S k=none∨Vbeman.find S m=none):Vbeman.onHouse S (.join k m)=(S,[-3]):=by
 show (match Vbeman.find S k,Vbeman.find S m with | some r,some s=>_ | _,_=>_)=_
 rcases h with h | h
 ·rw[h]
 ·rw[h];cases Vbeman.find S k <;> rfl
theorem zpZ {S:House} {k m:Nat} {r s:Right} (h1:Vbeman.find S k=some r) (h2:Vbeman.find S m=some s):Vbeman.onHouse S (.join k m)=if k=m∨r.owner≠s.owner∨r.source≠s.source∨r.sink≠s.sink∨r.option≠s.option∨Vbeman.BIG < r.amount + s.amount then (S,[-4])
   else ({ S with rights:=Vbeman.setAmount (Vbeman.without S.rights m) k (r.amount + s.amount) },[0,r.amount + s.amount]):=by
 show (match Vbeman.find S k,Vbeman.find S m with | some r,some s=>_ | _,_=>_)=_
 rw[h1,h2]
theorem zjH {S:House} {k m:Nat} {q:Int} (h:Vbeman.find S k=none∨Vbeman.find S m=none):Vbeman.onHouse S (.chain k m q)=(S,[-3]):=by
 show (match Vbeman.find S k,Vbeman.find S m with | some r,some s=>_ | _,_=>_)=_
 rcases h with h | h
 ·rw[h]
 ·rw[h];cases Vbeman.find S k <;> rfl
theorem zoG {S:House} {k m:Nat} {q:Int} {r s:Right} (h1:Vbeman.find S k=some r) (h2:Vbeman.find S m=some s):Vbeman.onHouse S (.chain k m q)=if k=m∨r.owner≠s.owner∨r.sink≠s.source∨s.sink=r.source∨r.option≠s.option∨r.amount < q∨s.amount < q then (S,[-4])
   else if Vbeman.RIGHTS≤(Vbeman.setAmount (Vbeman.setAmount S.rights k (r.amount - q)) m (s.amount - q)).length then (S,[-5])
    else ({ S with rights:=Vbeman.setAmount (Vbeman.setAmount S.rights k (r.amount - q)) m (s.amount - q)++[⟨S.nextRight,r.owner,r.source,s.sink,r.option,q⟩],nextRight:=S.nextRight + 1 },[0,(S.nextRight:Int)]):=by
 show (match Vbeman.find S k,Vbeman.find S m with | some r,some s=>_ | _,_=>_)=_
 rw[h1,h2]
theorem zjI {S:House} {k m:Nat} {q:Int} (h:Vbeman.find S k=none∨Vbeman.find S m=none):Vbeman.onHouse S (.annul k m q)=(S,[-3]):=by
 show (match Vbeman.find S k,Vbeman.find S m with | some r,some s=>_ | _,_=>_)=_
 rcases h with h | h
 ·rw[h]
 ·rw[h];cases Vbeman.find S k <;> rfl
theorem zoJ {S:House} {k m:Nat} {q:Int} {r s:Right} (h1:Vbeman.find S k=some r) (h2:Vbeman.find S m=some s):Vbeman.onHouse S (.annul k m q)=if k=m∨r.owner≠s.owner∨r.source≠s.sink∨r.sink≠s.source∨r.option=true∨s.option=true∨r.amount < q∨s.amount < q then (S,[-4])
   else ({ S with rights:=Vbeman.setAmount (Vbeman.setAmount S.rights k (r.amount - q)) m (s.amount - q) },[0,r.amount - q,s.amount - q]):=by
 show (match Vbeman.find S k,Vbeman.find S m with | some r,some s=>_ | _,_=>_)=_
 rw[h1,h2]
theorem zpX {S:House} {k z:Nat} (h:Vbeman.find S k=none):Vbeman.onHouse S (.via k z)=(S,[-3]):=by
 show (match Vbeman.find S k with | none=>_ | some r=>_)=_
 rw[h]
theorem zq2 {S:House} {k z:Nat} {r:Right} (h:Vbeman.find S k=some r):Vbeman.onHouse S (.via k z)=if S.zones≤z∨z=r.source∨z=r.sink then (S,[-4]) else if Vbeman.RIGHTS≤S.rights.length then (S,[-5])
   else if Vbeman.safe S.zones S.lines (Vbeman.without S.rights k++[{ r with number:=S.nextRight,sink:=z },{ r with number:=S.nextRight + 1,source:=z }])=false then (S,[-7])
    else ({ S with rights:=Vbeman.without S.rights k++[{ r with number:=S.nextRight,sink:=z },{ r with number:=S.nextRight + 1,source:=z }],nextRight:=S.nextRight + 2 },[0,(S.nextRight:Int),(S.nextRight:Int) + 1]):=by
 show (match Vbeman.find S k with | none=>_ | some r=>_)=_
 rw[h]
theorem zqA {c:Prop} [Decidable c] (h:(!decide c)=true):¬c:=λz=>by rw[decide_eq_true z] at h;cases h
theorem znk {c:Prop} [Decidable c] (h:¬(!decide c)=true):c:=Decidable.byContradiction λz=>h (by rw[decide_eq_false z];rfl)
theorem zqk {a b:Bool} (h:Vbeman.bit a=Vbeman.bit b):a=b:=by
 cases a <;> cases b <;> first | rfl | (cases h)
theorem zrU (l:List Right) (k:Nat):Vbeman.setAmount l k 0=Vbeman.without l k:=by
 unfold Vbeman.setAmount
 rw[if_pos (Int.le_refl 0)]
section
variable {P : Program} {w : World} {K : PySem.W.Frag} {mg : Str → Option Value} {base : Heap} {A : Ad} {f : Addr} {fd : FuncData}
def zk7 (A:Ad):Sp:=λvs H Q _=>∃(a b:Addr),vs=[.ref a,.ref b]∧∃r s,RightAt A H a r∧RightAt A H b s∧Q (.bl (decide (r.number≠s.number∧r.owner=s.owner∧r.option=s.option))) H
abbrev zcb:=top 103
abbrev zb3 (P:Program) (w:World) (K:PySem.W.Frag) (mg:Str→Option Value) (base:Heap) (A:Ad):Prop:=FnI P w K mg base "are_two_of_one_owner_and_kind" 1 ["right","other"] (zk7 A)
theorem zc2 (F:Fun K "are_two_of_one_owner_and_kind" "are_two_of_one_owner_and_kind" zcb f fd) (T:Txt K mg A):FnOk P w K mg base CX0 1 f fd ["right","other"] (zk7 A):=by
 have sc:FnScope ["right","other"] ["right","other"] (zbK zcb):=fsc
 refine F.ok sc (by rintro _ _ _ _ ⟨a,b,rfl,_⟩;rfl) λcdv Ar outer s H vs Q E hr h=>?_
 obtain⟨a,b,rfl,h⟩:=h
 refine⟨_,(zbF (zbJ (zgq (zcN zeG (zbE (pv 0) rfl) (zbE (pv 1) rfl) (zbR _)) (zgq (zcN zcs (zbE (pv 0) rfl) (zbE (pv 1) rfl) (zbR _)) (zig (zcN zcs (zbE (pv 0) rfl) (zbE (pv 1) rfl) (zbR _))))))),?_⟩
 obtain⟨r,s',⟨dr,hR⟩,⟨ds,hS⟩,q⟩:=h
 refine⟨_,rfl,gR T hR rfl ⟨_,rfl,gR T hS rfl ⟨rfl,_,rfl,zb9 (λh1=>?_) (λh1=>?_)⟩⟩⟩
 ·have h1:=neI h1
  refine⟨_,rfl,gR T hR rfl ⟨_,rfl,gR T hS rfl ⟨rfl,_,rfl,zb9 (λh2=>?_) (λh2=>?_)⟩⟩⟩
  ·have h2:r.owner=s'.owner:=by have:=of_decide_eq_true h2;injection this with z;omega
   refine⟨_,rfl,gR T hR rfl ⟨_,rfl,gR T hS rfl ⟨rfl,?_⟩⟩⟩
   have e:decide (r.number≠s'.number∧r.owner=s'.owner∧r.option=s'.option)=decide (V.int (Vbeman.bit r.option)=V.int (Vbeman.bit s'.option)):=by
    rw[decide_eq_decide]
    constructor
    ·intro z;rw[z.2.2]
    ·intro z;injection z with z;exact⟨h1,h2,zqk z⟩
   rw[e] at q
   exact q
  ·have h2:¬r.owner=s'.owner:=λz=>h2 (decide_eq_true (by rw[z]))
   rw[decide_eq_false (λz=>h2 z.2.1)] at q
   exact q
 ·have h1:=zll h1
  rw[decide_eq_false (λz=>z.1 h1)] at q
  exact q
def zh6 (A:Ad):Sp:=λvs H Q _=>∃(a b:Addr) (qa:Int),vs=[.ref a,.ref b,.int qa]∧∃r s,RightAt A H a r∧RightAt A H b s∧Q (.bl (decide (qa≤r.amount∧qa≤s.amount))) H
abbrev zff:=top 104
abbrev zfw (P:Program) (w:World) (K:PySem.W.Frag) (mg:Str→Option Value) (base:Heap) (A:Ad):Prop:=FnI P w K mg base "have_both" 1 ["right","other","amount"] (zh6 A)
theorem zjO (F:Fun K "have_both" "have_both" zff f fd) (T:Txt K mg A):FnOk P w K mg base CX0 1 f fd ["right","other","amount"] (zh6 A):=by
 have sc:FnScope ["right","other","amount"] ["right","other","amount"] (zbK zff):=fsc
 refine F.ok sc (by rintro _ _ _ _ ⟨a,b,qa,rfl,_⟩;rfl) λcdv Ar outer s H vs Q E hr h=>?_
 obtain⟨a,b,qa,rfl,h⟩:=h
 refine⟨_,(zbF (zbJ (zgq (zcN zlW (zbE (pv 0) rfl) (pv 2) (zbR _)) (zig (zcN zlW (zbE (pv 1) rfl) (pv 2) (zbR _)))))),?_⟩
 obtain⟨r,s',⟨dr,hR⟩,⟨ds,hS⟩,q⟩:=h
 refine⟨_,rfl,gR T hR rfl ⟨_,rfl,⟨_,_,rfl,rfl,⟨_,rfl,zb9 (λh1=>?_) (λh1=>?_)⟩⟩⟩⟩
 ·have h1:=of_decide_eq_true h1
  refine⟨_,rfl,gR T hS rfl ⟨_,rfl,⟨_,_,rfl,rfl,?_⟩⟩⟩
  have e:decide (qa≤r.amount∧qa≤s'.amount)=decide (qa≤s'.amount):=by
   rw[decide_eq_decide];exact⟨λz=>z.2,λz=>⟨h1,z⟩⟩
  rw[e] at q
  exact q
 ·have h1:=λz=>h1 (decide_eq_true z)
  rw[decide_eq_false (λz=>h1 z.1)] at q
  exact q
def zpk (A:Ad):Sp:=λvs H Q _=>∃(l a b:Addr) (qa:Int),vs=[.ref l,.ref a,.ref b,.int qa]∧∃rs r s,rs.length≤1000∧RightsAt A H l rs∧RightAt A H a r∧RightAt A H b s ∧
 ∀H' p,Same H H'→H p=none→RightsAt A H' p (Vbeman.setAmount (Vbeman.setAmount rs r.number (r.amount - qa)) s.number (s.amount - qa))→Q (.ref p) H'
abbrev zdH:=top 105
abbrev zdM (P:Program) (w:World) (K:PySem.W.Frag) (mg:Str→Option Value) (base:Heap) (A:Ad):Prop:=FnI P w K mg base "less_of_both" 4 ["rights","right","other","amount"] (zpk A)
theorem zhi (F:Fun K "less_of_both" "less_of_both" zdH f fd) (T:Txt K mg A) (zbl:zcx P w K mg base A):FnOk P w K mg base CX0 4 f fd ["rights","right","other","amount"] (zpk A):=by
 have sc:FnScope ["rights","right","other","amount","rest"] ["rights","right","other","amount"] (zbK zdH):=fsc
 refine F.ok sc (by rintro _ _ _ _ ⟨l,a,b,qa,rfl,_⟩;rfl) λcdv Ar outer s H vs Q E hr h=>?_
 obtain⟨l,a,b,qa,rfl,h⟩:=h
 refine⟨_,(zbC (zbP (i:=4) sc.nd rfl (by first | exact Or.inl rfl | exact Or.inr rfl) (zbH zbl (hr.mono (by decide)) (by rfl) (zbB (pv 0) (zbB (zbE (pv 1) rfl) (zbB (zb2 zcz (zbE (pv 1) rfl) (pv 3)) zbD))))) (zbF (zbJ (zbH zbl (hr.mono (by decide)) (by rfl) (zbB (pv 4) (zbB (zbE (pv 2) rfl) (zbB (zb2 zcz (zbE (pv 2) rfl) (pv 3)) zbD))))))),?_⟩
 obtain⟨rs,r,s',hz,hl,⟨dr,hR⟩,⟨ds,hS⟩,q⟩:=h
 refine⟨_,rfl,⟨_,rfl,gR T hR rfl ⟨_,rfl,gR T hR rfl ⟨_,rfl,⟨_,_,rfl,rfl,?_⟩⟩⟩⟩⟩
 refine⟨l,r.number,_,rfl,rs,hz,hl,λH1 p1 s1 hp1 h1=>?_⟩
 have hS1:=s1 _ _ hS
 refine⟨_,rfl,⟨_,rfl,gR T hS1 rfl ⟨_,rfl,gR T hS1 rfl ⟨_,rfl,⟨_,_,rfl,rfl,?_⟩⟩⟩⟩⟩
 refine⟨p1,s'.number,_,rfl,_,Nat.le_trans (zcv _ _ _) hz,h1,λH2 p2 s2 hp2 h2=>?_⟩
 exact q _ p2 (s1.trans s2) (s1.free hp2) h2
theorem Good.less {S:House} (g:Good S) {k m:Nat} {q1 q2:Int} (h1:q1≤1000000000) (h2:q2≤1000000000):Good { S with rights:=Vbeman.setAmount (Vbeman.setAmount S.rights k q1) m q2 } :=
 g.to (nx:=S.nextRight) (bs:=S.balances) (Nat.le_trans (zcv _ _ _) (Nat.le_trans (zcv _ _ _) g.rl)) ((g.all.set h1).set h2) (g.nd.sublist ((zc8 _ _ _).trans (zc8 _ _ _))) g.bl
theorem HouseAt.newR {H H1:Hp} {h dx ll lr lb bl p:Addr} {S S':House} (HH:HouseAt A H h dx ll lr lb bl S) (s:Same H H1) (hp:H p=none) (hr:RightsAt A H1 p S'.rights) (g:Good S') (e1:S'.lines=S.lines) (e2:S'.balances=S.balances) (e3:S'.bids=S.bids:=by rfl) :
  HouseAt A (upd H1 h (.ins A.cHouse dx (zbY S' ll p lb bl))) h dx ll p lb bl S'∧zit h ll lr lb bl H ll p lb bl (upd H1 h (.ins A.cHouse dx (zbY S' ll p lb bl))):=by
 have HH1:=HH.same s
 have np:ll≠p:=by
  obtain⟨bs,e2,_⟩:=HH.la
  exact zbI e2 hp
 refine⟨HH1.fin (ll':=ll) (lr':=p) zbG ?_ zb7 ?_ hr np HH.d2 (zbI HH.bal hp).symm g HH.d5 e3,zec s zb7 (.inl rfl) (.inr hp)⟩
 ·rw[zbL HH1.nbh,e2];exact HH1.bal
 ·rw[e1];exact HH1.la
def zqt (nums:List (Str×Int)) (c:Vbeman.Call):Prop:=∃(k m:Nat),nums=([("right",(k:Int)),("other",(m:Int))]:List (Str×Int))∧c=.join k m
abbrev zd2:=top 102
abbrev zfU (P:Program) (w:World) (K:PySem.W.Frag) (mg:Str→Option Value) (base:Heap) (A:Ad):Prop:=FnI P w K mg base "join_rights" 4 ["house","numbers"] (zce A zqt)
theorem zhS (F:Fun K "join_rights" "join_rights" zd2 f fd) (T:Txt K mg A) (zax:zb1 P w K mg base A) (zbl:zcx P w K mg base A) (zak:zb3 P w K mg base A):FnOk P w K mg base CX0 4 f fd ["house","numbers"] (zce A zqt):=by
 have sc:FnScope ["house","numbers","right","other","both","rights"] ["house","numbers"] (zbK zd2):=fsc
 refine F.ok sc (by rintro _ _ _ _ ⟨h,d,rfl,_⟩;rfl) λcdv Ar outer s H vs Q E hr h=>?_
 obtain⟨h,d,rfl,h⟩:=h
 refine⟨_,(zbC (zbP (i:=2) sc.nd rfl (by first | exact Or.inl rfl | exact Or.inr rfl) (zbH zax (hr.mono (by decide)) (by rfl) (zbB (zbE (pv 0) rfl) (zbB (zbS (zb8 hr) (pv 1) zbV (λ_ _=>rfl)) zbD)))) (zbC (zbP (i:=3) sc.nd rfl (by first | exact Or.inl rfl | exact Or.inr rfl) (zbH zax (hr.mono (by decide)) (by rfl) (zbB (zbE (pv 0) rfl) (zbB (zbS (zb8 hr) (pv 1) zbV (λ_ _=>rfl)) zbD)))) (zbC (zbU (PW.pt (zfD (zdu (zdB (pv 2))) (zeh (zdu (zdB (pv 3)))))) (zbF (zbJ (zbQ (zbB (zb6 T.i_NOT_THERE (by rfl)) zbD)))) zbM) (zbC (zbP (i:=4) sc.nd rfl (by first | exact Or.inl rfl | exact Or.inr rfl) (zb2 zcK (zbE (pv 2) rfl) (zbE (pv 3) rfl))) (zbC (zbU (PW.pt (zfD (zcW (zcy (zbH zak (hr.mono (by decide)) (by rfl) (zbB (pv 2) (zbB (pv 3) zbD))))) (zfD (zbO zeG (zbE (pv 2) rfl) (zbE (pv 3) rfl) (zbR _)) (zeh (zbO zeG (zbE (pv 2) rfl) (zbE (pv 3) rfl) (zbR _)))))) (zbF (zbJ (zbQ (zbB (zb6 T.i_NOT_FITTING (by rfl)) zbD)))) zbM) (zbC (zbU (zbO zhe (pv 4) (zb6 T.i_MOST_AMOUNT (by rfl)) (zbR _)) (zbF (zbJ (zbQ (zbB (zb6 T.i_NOT_FITTING (by rfl)) zbD)))) zbM) (zbC (zbP (i:=5) sc.nd rfl (by first | exact Or.inl rfl | exact Or.inr rfl) (zbH zbl (hr.mono (by decide)) (by rfl) (zbB (zbE (pv 0) rfl) (zbB (zbE (pv 3) rfl) (zbB zbN zbD))))) (zbC (zbX (pv 0) (zbH zbl (hr.mono (by decide)) (by rfl) (zbB (pv 5) (zbB (zbE (pv 2) rfl) (zbB (pv 4) zbD)))) rfl) (zbF (zbJ (zbQ (zbB zbN (zbB (pv 4) zbD))))))))))))),?_⟩
 obtain⟨dx,ll,lr,lb,bl,S,nums,c,HH,hd,⟨k,m,rfl,rfl⟩,q⟩:=h
 have hh:=HH.obj
 refine⟨_,rfl,gH T hh rfl ⟨_,rfl,_,_,rfl,zdc hd,?_⟩⟩
 refine zci T HH.ra λv hv=>?_
 refine⟨_,rfl,gH T hh rfl ⟨_,rfl,_,_,rfl,zdc hd,?_⟩⟩
 refine zci T HH.ra λv2 hv2=>?_
 refine⟨_,rfl,?_⟩
 cases e:Vbeman.find S k with
 | none =>
  rw[show (S.rights.find? λr=>r.number == k)=none from e] at hv
  have hv:v=.non:=hv
  subst hv
  exact⟨_,rfl,zgc (zgc (zbZ q HH (Same.refl _) (zli (.inl e)) rfl))⟩
 | some r =>
  rw[show (S.rights.find? λr=>r.number == k)=some r from e] at hv
  obtain⟨a,rfl,dr,hR⟩:=hv
  obtain⟨hm,hk,hO⟩:=zhq HH.good e
  refine⟨_,rfl,zi7 ?_⟩
  refine⟨_,rfl,?_⟩
  cases e2:Vbeman.find S m with
  | none =>
   rw[show (S.rights.find? λr=>r.number == m)=none from e2] at hv2
   have hv2:v2=.non:=hv2
   subst hv2
   exact⟨_,rfl,zgc (zbZ q HH (Same.refl _) (zli (.inr e2)) rfl)⟩
  | some s' =>
   rw[show (S.rights.find? λr=>r.number == m)=some s' from e2] at hv2
   obtain⟨b,rfl,ds,hS⟩:=hv2
   obtain⟨hm2,hk2,hO2⟩:=zhq HH.good e2
   have eo:=zpZ e e2
   have bad:=λhc=>zbZ q HH (Same.refl _) (ans:=[-4]) (xs:=[V.int (-4)]) (by rw[eo,if_pos hc]) rfl
   refine⟨_,rfl,zi7 ?_⟩
   refine⟨_,rfl,gR T hR rfl ⟨_,rfl,gR T hS rfl ⟨_,_,rfl,rfl,⟨_,rfl,⟨_,rfl,?_⟩⟩⟩⟩⟩
   refine⟨a,b,rfl,r,s',⟨dr,hR⟩,⟨ds,hS⟩,_,rfl,?_⟩
   refine zb9 (λh1=>zgc (bad ?_)) (λh1=>?_)
   ·have h1:=zqA h1
    by_cases z1:k=m
    ·exact .inl z1
    by_cases z2:r.owner=s'.owner
    ·exact .inr (.inr (.inr (.inr (.inl λz3=>h1 ⟨by omega,z2,z3⟩))))
    ·exact .inr (.inl z2)
   have h1:=znk h1
   refine⟨_,rfl,gR T hR rfl ⟨_,rfl,gR T hS rfl ⟨rfl,_,rfl,?_⟩⟩⟩
   refine zb9 (λh2=>zgc (bad (.inr (.inr (.inl (neI h2)))))) (λh2=>?_)
   have h2:=zll h2
   refine⟨_,rfl,gR T hR rfl ⟨_,rfl,gR T hS rfl ⟨rfl,_,rfl,?_⟩⟩⟩
   refine zb9 (λh3=>bad (.inr (.inr (.inr (.inl (neI h3)))))) (λh3=>?_)
   have h3:=zll h3
   refine⟨_,rfl,⟨_,_,rfl,rfl,⟨_,rfl,?_⟩⟩⟩
   refine zb9 (λh4=>bad (.inr (.inr (.inr (.inr (.inr (of_decide_eq_true h4))))))) (λh4=>?_)
   have h4:¬Vbeman.BIG < r.amount + s'.amount:=λz=>h4 (decide_eq_true z)
   rw[if_neg (by
    rintro (z | z | z | z | z | z)
    ·exact h1.1 (by omega)
    ·exact z h1.2.1
    ·exact z h2
    ·exact z h3
    ·exact z h1.2.2
    ·exact h4 z),←zrU] at eo
   rw[eo] at q
   have h4:r.amount + s'.amount≤1000000000:=Int.not_lt.mp h4
   refine⟨_,rfl,gH T hh rfl ⟨_,rfl,gR T hS rfl ?_⟩⟩
   refine⟨lr,s'.number,0,rfl,S.rights,Nat.le_trans HH.good.rl (by decide),HH.ra,λH1 p1 s1 hp1 h1'=>?_⟩
   have hR1:=s1 _ _ hR
   refine⟨_,rfl,⟨_,rfl,gR T hR1 rfl ⟨_,rfl,?_⟩⟩⟩
   refine⟨p1,r.number,_,rfl,_,Nat.le_trans (zcv _ _ _) (Nat.le_trans HH.good.rl (by decide)),h1',λH2 p2 s2 hp2 h2'=>?_⟩
   rw[hk,hk2] at h2'
   have hh2:=(HH.same (s1.trans s2)).obj
   refine⟨_,rfl,h,_,dx,_,rfl,hh2,T.clH,T.naH _ (by decide),by show 10 < 1000;decide,?_⟩
   refine⟨_,rfl,?_⟩
   have G2:=HH.good.less (k:=m) (m:=k) (q1:=0) (q2:=r.amount + s'.amount) (by decide) h4
   obtain⟨HH3,K3⟩:=HH.newR (s1.trans s2) (s1.free hp2) (S':={ S with rights:=Vbeman.setAmount (Vbeman.setAmount S.rights m 0) k (r.amount + s'.amount) }) h2' G2 rfl rfl
   exact zcZ q HH3 K3 rfl
def zis (mkc:Nat→Nat→Int→Vbeman.Call) (nums:List (Str×Int)) (c:Vbeman.Call):Prop:=∃(k m:Nat) (q:Int),nums=([("right",(k:Int)),("other",(m:Int)),("amount",q)]:List (Str×Int))∧Amt q∧c=mkc k m q
abbrev zkv:=top 106
abbrev zn6 (P:Program) (w:World) (K:PySem.W.Frag) (mg:Str→Option Value) (base:Heap) (A:Ad):Prop:=FnI P w K mg base "chain" 5 ["house","numbers"] (zce A (zis .chain))
theorem zoN (F:Fun K "chain" "chain" zkv f fd) (T:Txt K mg A) (zax:zb1 P w K mg base A) (zaM:zdM P w K mg base A) (zak:zb3 P w K mg base A) (zaE:zfw P w K mg base A) (zbu:zeQ P w K mg base A):FnOk P w K mg base CX0 5 f fd ["house","numbers"] (zce A (zis .chain)):=by
 have sc:FnScope ["house","numbers","right","other","amount","rest","number"] ["house","numbers"] (zbK zkv):=fsc
 refine F.ok sc (by rintro _ _ _ _ ⟨h,d,rfl,_⟩;rfl) λcdv Ar outer s H vs Q E hr h=>?_
 obtain⟨h,d,rfl,h⟩:=h
 refine⟨_,(zbC (zbP (i:=2) sc.nd rfl (by first | exact Or.inl rfl | exact Or.inr rfl) (zbH zax (hr.mono (by decide)) (by rfl) (zbB (zbE (pv 0) rfl) (zbB (zbS (zb8 hr) (pv 1) zbV (λ_ _=>rfl)) zbD)))) (zbC (zbP (i:=3) sc.nd rfl (by first | exact Or.inl rfl | exact Or.inr rfl) (zbH zax (hr.mono (by decide)) (by rfl) (zbB (zbE (pv 0) rfl) (zbB (zbS (zb8 hr) (pv 1) zbV (λ_ _=>rfl)) zbD)))) (zbC (zbP (i:=4) sc.nd rfl (by first | exact Or.inl rfl | exact Or.inr rfl) (zbS (zb8 hr) (pv 1) zbV (λ_ _=>rfl))) (zbC (zbU (PW.pt (zfD (zdu (zdB (pv 2))) (zeh (zdu (zdB (pv 3)))))) (zbF (zbJ (zbQ (zbB (zb6 T.i_NOT_THERE (by rfl)) zbD)))) zbM) (zbC (zbU (PW.pt (zfD (zcW (zcy (zbH zak (hr.mono (by decide)) (by rfl) (zbB (pv 2) (zbB (pv 3) zbD))))) (zeh (zcW (zcy (zbH zaE (hr.mono (by decide)) (by rfl) (zbB (pv 2) (zbB (pv 3) (zbB (pv 4) zbD))))))))) (zbF (zbJ (zbQ (zbB (zb6 T.i_NOT_FITTING (by rfl)) zbD)))) zbM) (zbC (zbU (PW.pt (zfD (zbO zeG (zbE (pv 2) rfl) (zbE (pv 3) rfl) (zbR _)) (zeh (zbO zcs (zbE (pv 3) rfl) (zbE (pv 2) rfl) (zbR _))))) (zbF (zbJ (zbQ (zbB (zb6 T.i_NOT_FITTING (by rfl)) zbD)))) zbM) (zbC (zbP (i:=5) sc.nd rfl (by first | exact Or.inl rfl | exact Or.inr rfl) (zbH zaM (hr.mono (by decide)) (by rfl) (zbB (zbE (pv 0) rfl) (zbB (pv 2) (zbB (pv 3) (zbB (pv 4) zbD)))))) (zbC (zbU (zbO zcs (zbT zcc (by rfl) T.n_len (by decide +kernel) (zbB (pv 5) zbD)) (zb6 T.i_MOST_RIGHTS (by rfl)) (zbR _)) (zbF (zbJ (zbQ (zbB (zb6 T.i_FULL (by rfl)) zbD)))) zbM) (zbC (zbP (i:=6) sc.nd rfl (by first | exact Or.inl rfl | exact Or.inr rfl) (zbE (pv 0) rfl)) (zbC (zbX (pv 0) (zb2 zdw (pv 5) (zbQ (zbB (zcI zbu (hr.mono (by decide)) (by rfl) (zbB (pv 6) (zbB (zbE (pv 2) rfl) (zbB (zbE (pv 2) rfl) (zbB (zbE (pv 3) rfl) (zbB (zbE (pv 2) rfl) (zbB (pv 4) zbD))))))) zbD))) rfl) (zbC (zbX (pv 0) (zb2 zcK (pv 6) zbN) rfl) (zbF (zbJ (zbQ (zbB zbN (zbB (pv 6) zbD)))))))))))))))),?_⟩
 obtain⟨dx,ll,lr,lb,bl,S,nums,c,HH,hd,⟨k,m,am,rfl,ham,rfl⟩,q⟩:=h
 have hh:=HH.obj
 refine⟨_,rfl,gH T hh rfl ⟨_,rfl,_,_,rfl,zdc hd,?_⟩⟩
 refine zci T HH.ra λv hv=>?_
 refine⟨_,rfl,gH T hh rfl ⟨_,rfl,_,_,rfl,zdc hd,?_⟩⟩
 refine zci T HH.ra λv2 hv2=>?_
 refine⟨_,rfl,_,_,rfl,zdc hd,⟨_,rfl,?_⟩⟩
 cases e:Vbeman.find S k with
 | none =>
  rw[show (S.rights.find? λr=>r.number == k)=none from e] at hv
  have hv:v=.non:=hv
  subst hv
  exact⟨_,rfl,zgc (zgc (zbZ q HH (Same.refl _) (zjH (.inl e)) rfl))⟩
 | some r =>
  rw[show (S.rights.find? λr=>r.number == k)=some r from e] at hv
  obtain⟨a,rfl,dr,hR⟩:=hv
  obtain⟨hm,hk,hO⟩:=zhq HH.good e
  refine⟨_,rfl,zi7 ?_⟩
  refine⟨_,rfl,?_⟩
  cases e2:Vbeman.find S m with
  | none =>
   rw[show (S.rights.find? λr=>r.number == m)=none from e2] at hv2
   have hv2:v2=.non:=hv2
   subst hv2
   exact⟨_,rfl,zgc (zbZ q HH (Same.refl _) (zjH (.inr e2)) rfl)⟩
  | some s' =>
   rw[show (S.rights.find? λr=>r.number == m)=some s' from e2] at hv2
   obtain⟨b,rfl,ds,hS⟩:=hv2
   obtain⟨hm2,hk2,hO2⟩:=zhq HH.good e2
   have eo:=zoG (q:=am) e e2
   have bad:=λhc=>zbZ q HH (Same.refl _) (ans:=[-4]) (xs:=[V.int (-4)]) (by rw[eo,if_pos hc]) rfl
   refine⟨_,rfl,zi7 ?_⟩
   refine⟨_,rfl,⟨_,rfl,?_⟩⟩
   refine⟨a,b,rfl,r,s',⟨dr,hR⟩,⟨ds,hS⟩,_,rfl,?_⟩
   refine zb9 (λh1=>zgc (bad ?_)) (λh1=>?_)
   ·have h1:=zqA h1
    by_cases z1:k=m
    ·exact .inl z1
    by_cases z2:r.owner=s'.owner
    ·exact .inr (.inr (.inr (.inr (.inl λz3=>h1 ⟨by omega,z2,z3⟩))))
    ·exact .inr (.inl z2)
   have h1:=znk h1
   refine⟨_,rfl,⟨_,rfl,⟨_,rfl,?_⟩⟩⟩
   refine⟨a,b,am,rfl,r,s',⟨dr,hR⟩,⟨ds,hS⟩,_,rfl,?_⟩
   refine zb9 (λh2=>bad ?_) (λh2=>?_)
   ·have h2:=zqA h2
    by_cases z1:r.amount < am
    ·exact .inr (.inr (.inr (.inr (.inr (.inl z1)))))
    ·exact .inr (.inr (.inr (.inr (.inr (.inr (by omega))))))
   have h2:=znk h2
   refine⟨_,rfl,gR T hR rfl ⟨_,rfl,gR T hS rfl ⟨rfl,_,rfl,?_⟩⟩⟩
   refine zb9 (λh3=>zgc (bad (.inr (.inr (.inl (neI h3)))))) (λh3=>?_)
   have h3:=zll h3
   refine⟨_,rfl,gR T hS rfl ⟨_,rfl,gR T hR rfl ⟨rfl,_,rfl,?_⟩⟩⟩
   refine zb9 (λh4=>bad (.inr (.inr (.inr (.inl (by have:=of_decide_eq_true h4;injection this with z;omega)))))) (λh4=>?_)
   have h4:¬s'.sink=r.source:=λz=>h4 (decide_eq_true (by rw[z]))
   rw[if_neg (by
    rintro (z | z | z | z | z | z | z)
    ·exact h1.1 (by omega)
    ·exact z h1.2.1
    ·exact z h3
    ·exact h4 z
    ·exact z h1.2.2
    ·omega
    ·omega)] at eo
   refine⟨_,rfl,gH T hh rfl ⟨_,rfl,⟨_,rfl,⟨_,rfl,?_⟩⟩⟩⟩
   refine⟨lr,a,b,am,rfl,S.rights,r,s',Nat.le_trans HH.good.rl (by decide),HH.ra,⟨dr,hR⟩,⟨ds,hS⟩,λH1 p1 s1 hp1 h1'=>?_⟩
   rw[hk,hk2] at h1'
   have G1:=HH.good.less (k:=k) (m:=m) (q1:=r.amount - am) (q2:=s'.amount - am) (by have:=hO.2.2.2;have:=ham.1;omega) (by have:=hO2.2.2.2;have:=ham.1;omega)
   generalize hrest:Vbeman.setAmount (Vbeman.setAmount S.rights k (r.amount - am)) m (s'.amount - am)=rest at *
   have gl:rest.length≤30:=G1.rl
   obtain⟨as,hl,hA⟩:=id h1'
   refine⟨_,rfl,?_⟩
   refine⟨_,_,rfl,.inl ⟨_,SqL.of hl,rfl⟩,rfl,_,rfl,?_⟩
   rw[List.length_map,hA.1]
   refine zb9 (λh5=>?_) (λh5=>?_)
   ·have h5:(rest.length:Int)=30:=by injection (of_decide_eq_true h5)
    exact zbZ q HH s1 (ans:=[-5]) (by rw[eo,if_pos (show Vbeman.RIGHTS≤rest.length by show 30≤_;omega)]) rfl
   have h5:¬(rest.length:Int)=30:=λz=>h5 (decide_eq_true (by rw[z]))
   rw[if_neg (show ¬Vbeman.RIGHTS≤rest.length by show ¬30≤_;omega)] at eo
   rw[eo] at q
   have HH1:=HH.same s1
   have hh1:=HH1.obj
   have hR1:=s1 _ _ hR
   have hS1:=s1 _ _ hS
   refine⟨_,rfl,gH T hh1 rfl ⟨_,rfl,⟨_,rfl,⟨_,rfl,gR T hR1 rfl ⟨_,rfl,gR T hR1 rfl ⟨_,rfl,gR T hS1 rfl ⟨_,rfl,gR T hR1 rfl ⟨_,rfl,zdC (r:=⟨S.nextRight,r.owner,r.source,s'.sink,r.option,am⟩) λH2 y ny sH2 aH2=>?_⟩⟩⟩⟩⟩⟩⟩⟩
   refine⟨by show 1≤sizeLine;decide,λp hp=>?_⟩
   have s3:Same H2 (upd H2 p (.lst [V.ref y])):=Same.upd hp
   have hp3:(upd H2 p (.lst [V.ref y])) p=some (.lst [V.ref y]):=zbG
   generalize (upd H2 p (.lst [V.ref y]))=H3 at s3 hp3 ⊢
   have hl3:=s3 _ _ (sH2 _ _ hl)
   refine⟨p1,p,_,_,rfl,rfl,hl3,hp3,?_,λp2 hp2=>?_⟩
   ·rw[List.length_map,hA.1]
    exact Nat.le_of_lt (zb0 (show _ + 1≤1000 by omega))
   have s4:Same H3 (upd H3 p2 (.lst (as.map V.ref++[V.ref y]))):=Same.upd hp2
   have hp4:(upd H3 p2 (.lst (as.map V.ref++[V.ref y]))) p2=some (.lst (as.map V.ref++[V.ref y])):=zbG
   generalize (upd H3 p2 (.lst (as.map V.ref++[V.ref y])))=H4 at s4 hp4 ⊢
   have s24:=s3.trans s4
   have s03:=(s1.trans sH2).trans s3
   have s04:=s03.trans s4
   have hh4:=(HH.same s04).obj
   have hR4:=RightsAt.push (sH2 _ _ hl) (hA.imp λc x z=>z.same sH2) aH2 s24 hp4
   refine⟨_,rfl,h,_,dx,_,rfl,hh4,T.clH,T.naH _ (by decide),by show 10 < 1000;decide,?_⟩
   refine⟨_,rfl,⟨_,_,rfl,rfl,?_⟩⟩
   refine⟨_,rfl,h,_,dx,_,rfl,zbG,T.clH,T.naH _ (by decide),by show 10 < 1000;decide,?_⟩
   rw[zcg]
   refine⟨_,rfl,?_⟩
   have G4:Good { S with rights:=rest++[⟨S.nextRight,r.owner,r.source,s'.sink,r.option,am⟩],nextRight:=S.nextRight + 1 }:=by
    refine HH.good.to (bs:=S.balances) ?_ (OneAll.app (OneAll.next G1.all (Nat.le_succ _)) ⟨⟨hO.1.1,hO2.1.2.1,λz=>h4 z.symm,ham.1⟩,hO.2.1,Nat.lt_succ_self _,ham.2⟩) (zfG G1.nd (λx hx=>(G1.all x hx).2.2.1) rfl) HH.good.bl
    rw[List.length_append,List.length_singleton];omega
   obtain⟨HH5,K5⟩:=HH.newR s04 (s03.free hp2) (S':={ S with rights:=rest++[⟨S.nextRight,r.owner,r.source,s'.sink,r.option,am⟩],nextRight:=S.nextRight + 1 }) hR4 G4 rfl rfl
   exact zcZ q HH5 K5 rfl
end
end Z
namespace Z
open PySem PySem.Spec PyProof.Rows L2
open Vbeman (Line Right House Bid)
theorem zkn {l:List Right} {k:Nat} {r:Right} (h:r∈l) (hk:r.number=k):(Vbeman.without l k).length < l.length:=by
 unfold Vbeman.without
 rw[List.length_filter_lt_length_iff_exists]
 exact⟨r,h,by simp [hk]⟩
section
variable {P : Program} {w : World} {K : PySem.W.Frag} {mg : Str → Option Value} {base : Heap} {A : Ad} {f : Addr} {fd : FuncData}
abbrev zkx:=top 108
abbrev zn8 (P:Program) (w:World) (K:PySem.W.Frag) (mg:Str→Option Value) (base:Heap) (A:Ad):Prop:=FnI P w K mg base "annul" 5 ["house","numbers"] (zce A (zis .annul))
theorem zoP (F:Fun K "annul" "annul" zkx f fd) (T:Txt K mg A) (zax:zb1 P w K mg base A) (zaM:zdM P w K mg base A) (zaE:zfw P w K mg base A) (zak:zb3 P w K mg base A):FnOk P w K mg base CX0 5 f fd ["house","numbers"] (zce A (zis .annul)):=by
 have sc:FnScope ["house","numbers","right","other","amount"] ["house","numbers"] (zbK zkx):=fsc
 refine F.ok sc (by rintro _ _ _ _ ⟨h,d,rfl,_⟩;rfl) λcdv Ar outer s H vs Q E hr h=>?_
 obtain⟨h,d,rfl,h⟩:=h
 refine⟨_,(zbC (zbP (i:=2) sc.nd rfl (by first | exact Or.inl rfl | exact Or.inr rfl) (zbH zax (hr.mono (by decide)) (by rfl) (zbB (zbE (pv 0) rfl) (zbB (zbS (zb8 hr) (pv 1) zbV (λ_ _=>rfl)) zbD)))) (zbC (zbP (i:=3) sc.nd rfl (by first | exact Or.inl rfl | exact Or.inr rfl) (zbH zax (hr.mono (by decide)) (by rfl) (zbB (zbE (pv 0) rfl) (zbB (zbS (zb8 hr) (pv 1) zbV (λ_ _=>rfl)) zbD)))) (zbC (zbP (i:=4) sc.nd rfl (by first | exact Or.inl rfl | exact Or.inr rfl) (zbS (zb8 hr) (pv 1) zbV (λ_ _=>rfl))) (zbC (zbU (PW.pt (zfD (zdu (zdB (pv 2))) (zeh (zdu (zdB (pv 3)))))) (zbF (zbJ (zbQ (zbB (zb6 T.i_NOT_THERE (by rfl)) zbD)))) zbM) (zbC (zbU (PW.pt (zfD (zcW (zcy (zbH zak (hr.mono (by decide)) (by rfl) (zbB (pv 2) (zbB (pv 3) zbD))))) (zeh (zbO zeG (zbE (pv 2) rfl) (zb6 T.i_OBLIGATION (by rfl)) (zbR _))))) (zbF (zbJ (zbQ (zbB (zb6 T.i_NOT_FITTING (by rfl)) zbD)))) zbM) (zbC (zbU (PW.pt (zfD (zbO zeG (zbE (pv 2) rfl) (zbE (pv 3) rfl) (zbR _)) (zeh (zbO zeG (zbE (pv 2) rfl) (zbE (pv 3) rfl) (zbR _))))) (zbF (zbJ (zbQ (zbB (zb6 T.i_NOT_FITTING (by rfl)) zbD)))) zbM) (zbC (zbU (zcW (zcy (zbH zaE (hr.mono (by decide)) (by rfl) (zbB (pv 2) (zbB (pv 3) (zbB (pv 4) zbD)))))) (zbF (zbJ (zbQ (zbB (zb6 T.i_NOT_FITTING (by rfl)) zbD)))) zbM) (zbC (zbX (pv 0) (zbH zaM (hr.mono (by decide)) (by rfl) (zbB (zbE (pv 0) rfl) (zbB (pv 2) (zbB (pv 3) (zbB (pv 4) zbD))))) rfl) (zbF (zbJ (zbQ (zbB zbN (zbB (zb2 zcz (zbE (pv 2) rfl) (pv 4)) (zbB (zb2 zcz (zbE (pv 3) rfl) (pv 4)) zbD)))))))))))))),?_⟩
 obtain⟨dx,ll,lr,lb,bl,S,nums,c,HH,hd,⟨k,m,am,rfl,ham,rfl⟩,q⟩:=h
 have hh:=HH.obj
 refine⟨_,rfl,gH T hh rfl ⟨_,rfl,_,_,rfl,zdc hd,?_⟩⟩
 refine zci T HH.ra λv hv=>?_
 refine⟨_,rfl,gH T hh rfl ⟨_,rfl,_,_,rfl,zdc hd,?_⟩⟩
 refine zci T HH.ra λv2 hv2=>?_
 refine⟨_,rfl,_,_,rfl,zdc hd,⟨_,rfl,?_⟩⟩
 cases e:Vbeman.find S k with
 | none =>
  rw[show (S.rights.find? λr=>r.number == k)=none from e] at hv
  have hv:v=.non:=hv
  subst hv
  exact⟨_,rfl,zgc (zgc (zbZ q HH (Same.refl _) (zjI (.inl e)) rfl))⟩
 | some r =>
  rw[show (S.rights.find? λr=>r.number == k)=some r from e] at hv
  obtain⟨a,rfl,dr,hR⟩:=hv
  obtain⟨hm,hk,hO⟩:=zhq HH.good e
  refine⟨_,rfl,zi7 ?_⟩
  refine⟨_,rfl,?_⟩
  cases e2:Vbeman.find S m with
  | none =>
   rw[show (S.rights.find? λr=>r.number == m)=none from e2] at hv2
   have hv2:v2=.non:=hv2
   subst hv2
   exact⟨_,rfl,zgc (zbZ q HH (Same.refl _) (zjI (.inr e2)) rfl)⟩
  | some s' =>
   rw[show (S.rights.find? λr=>r.number == m)=some s' from e2] at hv2
   obtain⟨b,rfl,ds,hS⟩:=hv2
   obtain⟨hm2,hk2,hO2⟩:=zhq HH.good e2
   have eo:=zoJ (q:=am) e e2
   have bad:=λhc=>zbZ q HH (Same.refl _) (ans:=[-4]) (xs:=[V.int (-4)]) (by rw[eo,if_pos hc]) rfl
   refine⟨_,rfl,zi7 ?_⟩
   refine⟨_,rfl,⟨_,rfl,?_⟩⟩
   refine⟨a,b,rfl,r,s',⟨dr,hR⟩,⟨ds,hS⟩,_,rfl,?_⟩
   refine zb9 (λh1=>zgc (bad ?_)) (λh1=>?_)
   ·have h1:=zqA h1
    by_cases z1:k=m
    ·exact .inl z1
    by_cases z2:r.owner=s'.owner
    ·by_cases z3:r.option=true
     ·exact .inr (.inr (.inr (.inr (.inl z3))))
     ·by_cases z4:s'.option=true
      ·exact .inr (.inr (.inr (.inr (.inr (.inl z4)))))
      ·exact absurd ⟨by omega,z2,by rw[Bool.not_eq_true _ |>.mp z3,Bool.not_eq_true _ |>.mp z4]⟩ h1
    ·exact .inr (.inl z2)
   have h1:=znk h1
   refine⟨_,rfl,gR T hR rfl ⟨rfl,_,rfl,?_⟩⟩
   refine zb9 (λh2=>bad ?_) (λh2=>?_)
   ·cases ho:r.option with
    | true=>exact .inr (.inr (.inr (.inr (.inl rfl))))
    | false=>rw[ho] at h2;cases (zqA h2 rfl)
   have h2:r.option=false:=by
    cases ho:r.option with
    | false=>rfl
    | true=>rw[ho] at h2;exact absurd rfl h2
   have h2':s'.option=false:=by rw[←h1.2.2];exact h2
   refine⟨_,rfl,gR T hR rfl ⟨_,rfl,gR T hS rfl ⟨rfl,_,rfl,?_⟩⟩⟩
   refine zb9 (λh3=>zgc (bad (.inr (.inr (.inl (neI h3)))))) (λh3=>?_)
   have h3:=zll h3
   refine⟨_,rfl,gR T hR rfl ⟨_,rfl,gR T hS rfl ⟨rfl,_,rfl,?_⟩⟩⟩
   refine zb9 (λh4=>bad (.inr (.inr (.inr (.inl (neI h4)))))) (λh4=>?_)
   have h4:=zll h4
   refine⟨_,rfl,⟨_,rfl,⟨_,rfl,?_⟩⟩⟩
   refine⟨a,b,am,rfl,r,s',⟨dr,hR⟩,⟨ds,hS⟩,_,rfl,?_⟩
   refine zb9 (λh5=>bad ?_) (λh5=>?_)
   ·have h5:=zqA h5
    by_cases z1:r.amount < am
    ·exact .inr (.inr (.inr (.inr (.inr (.inr (.inl z1))))))
    ·exact .inr (.inr (.inr (.inr (.inr (.inr (.inr (by omega)))))))
   have h5:=znk h5
   rw[if_neg (by
    rintro (z | z | z | z | z | z | z | z)
    ·exact h1.1 (by omega)
    ·exact z h1.2.1
    ·exact z h3
    ·exact z h4
    ·rw[h2] at z;cases z
    ·rw[h2'] at z;cases z
    ·omega
    ·omega)] at eo
   rw[eo] at q
   refine⟨_,rfl,gH T hh rfl ⟨_,rfl,⟨_,rfl,⟨_,rfl,?_⟩⟩⟩⟩
   refine⟨lr,a,b,am,rfl,S.rights,r,s',Nat.le_trans HH.good.rl (by decide),HH.ra,⟨dr,hR⟩,⟨ds,hS⟩,λH1 p1 s1 hp1 h1'=>?_⟩
   rw[hk,hk2] at h1'
   have G1:=HH.good.less (k:=k) (m:=m) (q1:=r.amount - am) (q2:=s'.amount - am) (by have:=hO.2.2.2;have:=ham.1;omega) (by have:=hO2.2.2.2;have:=ham.1;omega)
   have HH1:=HH.same s1
   have hh1:=HH1.obj
   refine⟨_,rfl,h,_,dx,_,rfl,hh1,T.clH,T.naH _ (by decide),by show 10 < 1000;decide,?_⟩
   obtain⟨HH3,K3⟩:=HH.newR s1 hp1 (S':={ S with rights:=Vbeman.setAmount (Vbeman.setAmount S.rights k (r.amount - am)) m (s'.amount - am) }) h1' G1 rfl rfl
   have hR2:(upd H1 h (.ins A.cHouse dx (zdO "rights" (.ref p1) (zbY S ll lr lb bl)))) a=some (.ins A.cRight dr (zgo r)):=by
    rw[zbL (RightAt.nh ⟨dr,s1 _ _ hR⟩ HH1)];exact s1 _ _ hR
   have hS2:(upd H1 h (.ins A.cHouse dx (zdO "rights" (.ref p1) (zbY S ll lr lb bl)))) b=some (.ins A.cRight ds (zgo s')):=by
    rw[zbL (RightAt.nh ⟨ds,s1 _ _ hS⟩ HH1)];exact s1 _ _ hS
   refine⟨_,rfl,gR T hR2 rfl ⟨_,rfl,⟨_,_,rfl,rfl,⟨_,rfl,gR T hS2 rfl ⟨_,rfl,⟨_,_,rfl,rfl,?_⟩⟩⟩⟩⟩⟩
   exact zcZ q HH3 K3 rfl
def zsb (nums:List (Str×Int)) (c:Vbeman.Call):Prop:=∃(k z:Nat),nums=([("right",(k:Int)),("zone",(z:Int))]:List (Str×Int))∧c=.via k z
abbrev zfd:=top 107
abbrev zhA (P:Program) (w:World) (K:PySem.W.Frag) (mg:Str→Option Value) (base:Heap) (A:Ad):Prop:=FnI P w K mg base "split_via" 7 ["house","numbers"] (zce A zsb)
theorem zjM (F:Fun K "split_via" "split_via" zfd f fd) (T:Txt K mg A) (zax:zb1 P w K mg base A) (zbu:zeQ P w K mg base A) (zbl:zcx P w K mg base A) (zaK:zdR P w K mg base A):FnOk P w K mg base CX0 7 f fd ["house","numbers"] (zce A zsb):=by
 have sc:FnScope ["house","numbers","right","zone","number","here","there","rights"] ["house","numbers"] (zbK zfd):=fsc
 refine F.ok sc (by rintro _ _ _ _ ⟨h,d,rfl,_⟩;rfl) λcdv Ar outer s H vs Q E hr h=>?_
 obtain⟨h,d,rfl,h⟩:=h
 refine⟨_,(zbC (zbP (i:=2) sc.nd rfl (by first | exact Or.inl rfl | exact Or.inr rfl) (zbH zax (hr.mono (by decide)) (by rfl) (zbB (zbE (pv 0) rfl) (zbB (zbS (zb8 hr) (pv 1) zbV (λ_ _=>rfl)) zbD)))) (zbC (zbP (i:=3) sc.nd rfl (by first | exact Or.inl rfl | exact Or.inr rfl) (zbS (zb8 hr) (pv 1) zbV (λ_ _=>rfl))) (zbC (zbU (zdu (zdB (pv 2))) (zbF (zbJ (zbQ (zbB (zb6 T.i_NOT_THERE (by rfl)) zbD)))) zbM) (zbC (zbU (PW.pt (zfD (zbO zlW (pv 3) (zbE (pv 0) rfl) (zbR _)) (zfD (zbO zcs (pv 3) (zbE (pv 2) rfl) (zbR _)) (zeh (zbO zcs (pv 3) (zbE (pv 2) rfl) (zbR _)))))) (zbF (zbJ (zbQ (zbB (zb6 T.i_NOT_FITTING (by rfl)) zbD)))) zbM) (zbC (zbU (zbO zcs (zbT zcc (by rfl) T.n_len (by decide +kernel) (zbB (zbE (pv 0) rfl) zbD)) (zb6 T.i_MOST_RIGHTS (by rfl)) (zbR _)) (zbF (zbJ (zbQ (zbB (zb6 T.i_FULL (by rfl)) zbD)))) zbM) (zbC (zbP (i:=4) sc.nd rfl (by first | exact Or.inl rfl | exact Or.inr rfl) (zbE (pv 0) rfl)) (zbC (zbP (i:=5) sc.nd rfl (by first | exact Or.inl rfl | exact Or.inr rfl) (zcI zbu (hr.mono (by decide)) (by rfl) (zbB (pv 4) (zbB (zbE (pv 2) rfl) (zbB (zbE (pv 2) rfl) (zbB (pv 3) (zbB (zbE (pv 2) rfl) (zbB (zbE (pv 2) rfl) zbD)))))))) (zbC (zbP (i:=6) sc.nd rfl (by first | exact Or.inl rfl | exact Or.inr rfl) (zcI zbu (hr.mono (by decide)) (by rfl) (zbB (zb2 zcK (pv 4) zbN) (zbB (zbE (pv 2) rfl) (zbB (pv 3) (zbB (zbE (pv 2) rfl) (zbB (zbE (pv 2) rfl) (zbB (zbE (pv 2) rfl) zbD)))))))) (zbC (zbP (i:=7) sc.nd rfl (by first | exact Or.inl rfl | exact Or.inr rfl) (zb2 zdw (zbH zbl (hr.mono (by decide)) (by rfl) (zbB (zbE (pv 0) rfl) (zbB (zbE (pv 2) rfl) (zbB zbN zbD)))) (zbQ (zbB (pv 5) (zbB (pv 6) zbD))))) (zbC (zbU (zcW (zcy (zbH zaK (hr.mono (by decide)) (by rfl) (zbB (zbE (pv 0) rfl) (zbB (zbE (pv 0) rfl) (zbB (pv 7) zbD)))))) (zbF (zbJ (zbQ (zbB (zb6 T.i_NOT_SAFE (by rfl)) zbD)))) zbM) (zbC (zbX (pv 0) (pv 7) rfl) (zbC (zbX (pv 0) (zb2 zcK (pv 4) zbN) rfl) (zbF (zbJ (zbQ (zbB zbN (zbB (pv 4) (zbB (zb2 zcK (pv 4) zbN) zbD)))))))))))))))))),?_⟩
 obtain⟨dx,ll,lr,lb,bl,S,nums,c,HH,hd,⟨k,z,rfl,rfl⟩,q⟩:=h
 have hh:=HH.obj
 obtain⟨as0,hl0,hA0⟩:=HH.ra
 refine⟨_,rfl,gH T hh rfl ⟨_,rfl,_,_,rfl,zdc hd,?_⟩⟩
 refine zci T HH.ra λv hv=>?_
 refine⟨_,rfl,_,_,rfl,zdc hd,⟨_,rfl,?_⟩⟩
 cases e:Vbeman.find S k with
 | none =>
  rw[show (S.rights.find? λr=>r.number == k)=none from e] at hv
  have hv:v=.non:=hv
  subst hv
  exact⟨_,rfl,zgc (zbZ q HH (Same.refl _) (zpX e) rfl)⟩
 | some r =>
  rw[show (S.rights.find? λr=>r.number == k)=some r from e] at hv
  obtain⟨a,rfl,dr,hR⟩:=hv
  obtain⟨hm,hk,hO⟩:=zhq HH.good e
  have eo:=zq2 (z:=z) e
  have bad:=λhc=>zbZ q HH (Same.refl _) (ans:=[-4]) (xs:=[V.int (-4)]) (by rw[eo,if_pos hc]) rfl
  refine⟨_,rfl,zi7 ?_⟩
  refine⟨_,rfl,⟨_,rfl,gH T hh rfl ⟨_,_,rfl,rfl,⟨_,rfl,?_⟩⟩⟩⟩
  refine zb9 (λh1=>zgc (bad (.inl (by have:=of_decide_eq_true h1;omega)))) (λh1=>?_)
  have h1:¬((S.zones:Int)≤(z:Int)):=λy=>h1 (decide_eq_true y)
  refine⟨_,rfl,⟨_,rfl,gR T hR rfl ⟨rfl,_,rfl,?_⟩⟩⟩
  refine zb9 (λh2=>zgc (bad (.inr (.inl (by have:=of_decide_eq_true h2;injection this with y;omega))))) (λh2=>?_)
  have h2:¬z=r.source:=λy=>h2 (decide_eq_true (by rw[y]))
  refine⟨_,rfl,⟨_,rfl,gR T hR rfl ⟨rfl,_,rfl,?_⟩⟩⟩
  refine zb9 (λh3=>bad (.inr (.inr (by have:=of_decide_eq_true h3;injection this with y;omega)))) (λh3=>?_)
  have h3:¬z=r.sink:=λy=>h3 (decide_eq_true (by rw[y]))
  rw[if_neg (by omega)] at eo
  refine⟨_,rfl,gH T hh rfl ?_⟩
  refine⟨_,_,rfl,.inl ⟨_,SqL.of hl0,rfl⟩,rfl,_,rfl,?_⟩
  rw[List.length_map,hA0.1]
  have hg:=HH.good.rl
  refine zb9 (λh4=>?_) (λh4=>?_)
  ·have h4:(S.rights.length:Int)=30:=by injection (of_decide_eq_true h4)
   exact zbZ q HH (Same.refl _) (ans:=[-5]) (by rw[eo,if_pos (show Vbeman.RIGHTS≤S.rights.length by show 30≤_;omega)]) rfl
  have h4:¬(S.rights.length:Int)=30:=λy=>h4 (decide_eq_true (by rw[y]))
  rw[if_neg (show ¬Vbeman.RIGHTS≤S.rights.length by show ¬30≤_;omega)] at eo
  refine⟨_,rfl,gH T hh rfl ⟨_,rfl,⟨_,rfl,gR T hR rfl ⟨_,rfl,gR T hR rfl ⟨_,rfl,⟨_,rfl,gR T hR rfl ⟨_,rfl,gR T hR rfl (zdC (r:={r with number:=S.nextRight,sink:=z}) λH1 x1 nx1 sH1 aH1=>?_)⟩⟩⟩⟩⟩⟩⟩
  have hR1:=sH1 _ _ hR
  refine⟨_,rfl,⟨_,_,rfl,rfl,⟨_,rfl,gR T hR1 rfl ⟨_,rfl,⟨_,rfl,gR T hR1 rfl ⟨_,rfl,gR T hR1 rfl ⟨_,rfl,gR T hR1 rfl (zdC (r:={r with number:=S.nextRight + 1,source:=z}) λH2 x2 nx2 sH2 aH2=>?_)⟩⟩⟩⟩⟩⟩⟩
  have s02:=sH1.trans sH2
  have HH2:=HH.same s02
  have hh2:=HH2.obj
  have hR2:=sH2 _ _ hR1
  refine⟨_,rfl,gH T hh2 rfl ⟨_,rfl,gR T hR2 rfl ?_⟩⟩
  refine⟨lr,r.number,0,rfl,S.rights,Nat.le_trans HH.good.rl (by decide),HH2.ra,λH3 p3 s3 hp3 h3'=>?_⟩
  rw[hk,zrU] at h3'
  have hwl:=zkn hm hk
  have G3:=HH.good.set (k:=k) (q:=0) (by decide)
  rw[zrU] at G3
  generalize hrest:Vbeman.without S.rights k=rest at *
  obtain⟨as,hl,hA⟩:=id h3'
  refine⟨_,rfl,⟨_,rfl,?_⟩⟩
  refine⟨by show 2≤sizeLine;decide,λp hp=>?_⟩
  have s4:Same H3 (upd H3 p (.lst [V.ref x1,V.ref x2])):=Same.upd hp
  have hp4:(upd H3 p (.lst [V.ref x1,V.ref x2])) p=some (.lst [V.ref x1,V.ref x2]):=zbG
  generalize (upd H3 p (.lst [V.ref x1,V.ref x2]))=H4 at s4 hp4 ⊢
  refine⟨p3,p,_,_,rfl,rfl,s4 _ _ hl,hp4,?_,λp5 hp5=>?_⟩
  ·rw[List.length_map,hA.1]
   exact Nat.le_of_lt (zb0 (show _ + 2≤1000 by omega))
  have s5:Same H4 (upd H4 p5 (.lst (as.map V.ref++[V.ref x1,V.ref x2]))):=Same.upd hp5
  have hp5':(upd H4 p5 (.lst (as.map V.ref++[V.ref x1,V.ref x2]))) p5=some (.lst (as.map V.ref++[V.ref x1,V.ref x2])):=zbG
  generalize (upd H4 p5 (.lst (as.map V.ref++[V.ref x1,V.ref x2])))=H5 at s5 hp5' ⊢
  have s35:=s4.trans s5
  have s04:=(s02.trans s3).trans s4
  have s05:=s04.trans s5
  have hR5:RightsAt A H5 p5 (rest++[{ r with number:=S.nextRight,sink:=z },{ r with number:=S.nextRight + 1,source:=z }]):=by
   refine⟨as++[x1,x2],by rw[hp5',List.map_append];rfl,?_⟩
   have:=((hA.imp λc x y=>y.same s35).snoc (((aH1.same sH2).same s3).same s35)).snoc ((aH2.same s3).same s35)
   rw[List.append_assoc,List.append_assoc] at this
   exact this
  have G5:Good { S with rights:=rest++[{ r with number:=S.nextRight,sink:=z },{ r with number:=S.nextRight + 1,source:=z }],nextRight:=S.nextRight + 2 }:=by
   have a1:OneAll S.zones (S.nextRight + 2) (rest++[{ r with number:=S.nextRight,sink:=z }]):=OneAll.app (OneAll.next G3.all (Nat.le_add_right _ 2)) ⟨⟨hO.1.1,by show z < S.zones;omega,λy=>h2 y.symm,hO.1.2.2.2⟩,hO.2.1,by show S.nextRight < S.nextRight + 2;omega,hO.2.2.2⟩
   have a2:=OneAll.app a1 (r:={ r with number:=S.nextRight + 1,source:=z }) ⟨⟨by show z < S.zones;omega,hO.1.2.1,h3,hO.1.2.2.2⟩,hO.2.1,by show S.nextRight + 1 < S.nextRight + 2;omega,hO.2.2.2⟩
   have n1:=zfG (r:={ r with number:=S.nextRight,sink:=z }) G3.nd (λx hx=>(G3.all x hx).2.2.1) rfl
   have n2:=zfG (k:=S.nextRight + 1) (r:={ r with number:=S.nextRight + 1,source:=z }) n1 (λx hx=>by
    rcases List.mem_append.mp hx with hx | hx
    ·exact Nat.lt_succ_of_lt (G3.all x hx).2.2.1
    ·rw[List.mem_singleton.mp hx];exact Nat.lt_succ_self _) rfl
   rw[List.append_assoc] at a2 n2
   refine HH.good.to (bs:=S.balances) ?_ a2 n2 HH.good.bl
   rw[List.length_append]
   show rest.length + 2≤30
   omega
  have HH5:=HH.same s05
  have hh5:=HH5.obj
  have hN:NetAt A H5 ll p5 S.lines (rest++[{ r with number:=S.nextRight,sink:=z },{ r with number:=S.nextRight + 1,source:=z }]):=⟨HH5.la,hR5,HH.good.okL,G5.okR,Nat.le_trans HH.good.ll (by decide),Nat.le_trans G5.rl (by decide)⟩
  refine⟨_,rfl,gH T hh5 rfl ⟨_,rfl,gH T hh5 rfl ⟨_,rfl,?_⟩⟩⟩
  refine⟨S.zones,ll,p5,rfl,_,_,HH.good.z6,hN,λH6 s6=>⟨_,rfl,?_⟩⟩
  refine zb9 (λh6=>?_) (λh6=>?_)
  ·exact zbZ q HH (s05.trans s6) (ans:=[-7]) (by rw[eo,if_pos (by simpa using h6)]) rfl
  rw[if_neg (by simpa using h6)] at eo
  rw[eo] at q
  have hh6:=(HH.same (s05.trans s6)).obj
  refine⟨_,rfl,_,rfl,h,_,dx,_,rfl,hh6,T.clH,T.naH _ (by decide),by show 10 < 1000;decide,?_⟩
  refine⟨_,rfl,⟨_,_,rfl,rfl,?_⟩⟩
  refine⟨_,rfl,h,_,dx,_,rfl,zbG,T.clH,T.naH _ (by decide),by show 10 < 1000;decide,?_⟩
  rw[zcg]
  refine⟨_,rfl,⟨_,rfl,⟨_,_,rfl,rfl,?_⟩⟩⟩
  obtain⟨HH7,K7⟩:=HH.newR (s05.trans s6) (s04.free hp5) (S':={ S with rights:=rest++[{ r with number:=S.nextRight,sink:=z },{ r with number:=S.nextRight + 1,source:=z }],nextRight:=S.nextRight + 2 }) (hR5.same s6) G5 rfl rfl
  exact zcZ q HH7 K7 rfl
end
end Z
namespace Z
open PySem PySem.Spec PyProof.Rows L2
open Vbeman (Line Right House Bid)
def zr9 (c:List (List Int)):Prop:=∃(p:Int) (xs:List Int) (rows:List (List Int)) (n k:Nat),c=(p::xs)::rows∧PyVbeman.shape p=some (n,k)∧xs.length=n∧rows.length=k∧∀r∈rows,r.length≤20000
theorem zla:∀{k:Nat} {l t:List Int} {xs:List (List Int)},PyFlat.rows k l=some (xs,t)→xs.length=k
 | 0,l,t,xs,h=>by
  have h:some (([]:List (List Int)),l)=some (xs,t):=h
  have e:[]=xs:=congrArg Prod.fst (Option.some.inj h)
  rw[←e];rfl
 | k + 1,l,t,xs,h=>by
  obtain⟨n,r,xs',_,_,_,h1,rfl⟩:=zhc h
  rw[List.length_cons,zla h1]
theorem zie:∀{k:Nat} {l t:List Int} {xs:List (List Int)},PyFlat.rows k l=some (xs,t)→t.length≤l.length∧∀x∈xs,x.length≤l.length
 | 0,l,t,xs,h=>by
  have h:some (([]:List (List Int)),l)=some (xs,t):=h
  have e:[]=xs:=congrArg Prod.fst (Option.some.inj h)
  have e2:l=t:=congrArg Prod.snd (Option.some.inj h)
  rw[←e,←e2]
  exact⟨Nat.le_refl _,λx hx=>(List.not_mem_nil hx).elim⟩
 | k + 1,l,t,xs,h=>by
  obtain⟨n,r,xs',e,_,_,h1,rfl⟩:=zhc h
  obtain⟨a,b⟩:=zie h1
  rw[List.length_drop] at a b
  rw[e,List.length_cons]
  refine⟨by omega,λx hx=>?_⟩
  rcases List.mem_cons.mp hx with rfl | hx
  ·rw[List.length_take];omega
  ·have:=b x hx
   omega
theorem zgi:∀{f:Nat} {l:List Int} {cs:List (List (List Int))},l.length≤20000→PyFlat.calls PyVbeman.shape f l=some cs→∀c∈cs,zr9 c
 | f,[],cs,_,h,c,hc=>by rw[zj8 h] at hc;exact (List.not_mem_nil hc).elim
 | 0,p::r,cs,_,h,c,hc=>by cases h
 | f + 1,p::r,cs,hl,h,c,hc=>by
  unfold PyFlat.calls at h
  rw[List.length_cons] at hl
  cases e:PyFlat.call PyVbeman.shape (p::r) with
  | none=>rw[e] at h;cases h
  | some x =>
   obtain⟨c1,t⟩:=x
   rw[e] at h
   dsimp only at h
   obtain⟨n,k,xs,h1,h2,h3,e1⟩:=zlB e
   obtain⟨sh1,sh2⟩:=zie h3
   rw[List.length_drop] at sh1 sh2
   cases e2:PyFlat.calls PyVbeman.shape f t with
   | none=>rw[e2] at h;cases h
   | some cs' =>
    rw[e2] at h
    have h:some (c1::cs')=some cs:=h
    rw[←Option.some.inj h] at hc
    rcases List.mem_cons.mp hc with rfl | hc
    ·exact⟨p,r.take n,xs,n,k,e1,h1,by rw[List.length_take];omega,zla h3,λx hx=>by have:=sh2 x hx;omega⟩
    ·exact zgi (by omega) e2 c hc
def after (s:Vbeman.State) (cs:List (List (List Int))):Vbeman.State:=cs.foldl (λs c=>(VbemanNeutral.step s c).1) s
theorem zhd:∀(s:Vbeman.State) (cs:List (List (List Int))) (c:List (List Int)),PyFlat.played VbemanNeutral.step s (cs++[c])=PyFlat.played VbemanNeutral.step s cs++[(VbemanNeutral.step (after s cs) c).2]
 | s,[],c=>rfl
 | s,d::cs,c=>by
  show (VbemanNeutral.step s d).2::PyFlat.played VbemanNeutral.step (VbemanNeutral.step s d).1 (cs++[c])=_
  rw[zhd]
  rfl
theorem zmm (s:Vbeman.State) (cs:List (List (List Int))) (c:List (List Int)):after s (cs++[c])=(VbemanNeutral.step (after s cs) c).1:=by
 unfold after
 rw[List.foldl_append]
 rfl
theorem zmy (l:List (List Int)) (a:List Int):PyFlat.told (l++[a])=PyFlat.told l++((a.length:Int)::a):=by
 unfold PyFlat.told
 rw[List.flatMap_append,List.flatMap_singleton]
section
variable {P : Program} {w : World} {K : PySem.W.Frag} {mg : Str → Option Value} {base : Heap} {A : Ad} {f : Addr} {fd : FuncData}
def StAt (A:Ad) (H:Hp) (h ll lr lb bl:Addr) (st:Vbeman.State):Prop:=match st.house with
 | none=>∃dx,H h=some (.ins A.cHouse dx (zbY (zea 0) ll lr lb bl))
 | some S=>∃dx,HouseAt A H h dx ll lr lb bl S
theorem StAt.same {H H':Hp} {h ll lr lb bl:Addr} {st:Vbeman.State} (x:StAt A H h ll lr lb bl st) (s:Same H H'):StAt A H' h ll lr lb bl st:=by
 unfold StAt at x ⊢
 cases e:st.house with
 | none=>rw[e] at x;obtain⟨dx,z⟩:=x;exact⟨dx,s _ _ z⟩
 | some S=>rw[e] at x;obtain⟨dx,z⟩:=x;exact⟨dx,z.same s⟩
def zic (A:Ad):Sp:=λvs H Q _=>∃(h c:Addr),vs=[.ref h,.ref c]∧∃ll lr lb bl st call,StAt A H h ll lr lb bl st∧CallAt A (zeo [h,ll,lr,lb,bl] H) c (toP call)∧zr9 call ∧
 ∀H' p ll' lr' lb' bl',StAt A H' h ll' lr' lb' bl' (VbemanNeutral.step st call).1→zit h ll lr lb bl H ll' lr' lb' bl' H'→zeo [h,ll,lr,lb,bl] H p=none→(VbemanNeutral.step st call).2.length≤1000→H' p=some (.lst ((VbemanNeutral.step st call).2.map V.int))→Q (.ref p) H'
theorem HouseAt.beside {H:Hp} {h dx ll lr lb bl D:Addr} {S:House} {xs:List V} {o:HO} (x:HouseAt A H h dx ll lr lb bl S) (hD:H D=some (.lst xs)) (n:D≠ll∧D≠lr∧D≠lb∧D≠bl):HouseAt A (upd H D o) h dx ll lr lb bl S:=by
 have kR:∀c r,RightAt A H c r→RightAt A (upd H D o) c r:=λc r y=>by
  have m:=y.ne hD (.inl ⟨_,rfl⟩)
  obtain⟨dc,e⟩:=y
  exact⟨dc,by rw[zbL m];exact e⟩
 have kL:∀c r,LineAt A H c r→LineAt A (upd H D o) c r:=λc r y=>by
  have m:=y.ne hD (.inl ⟨_,rfl⟩)
  obtain⟨dc,e⟩:=y
  exact⟨dc,by rw[zbL m];exact e⟩
 have kB:∀c r,BidAt A H c r→BidAt A (upd H D o) c r:=λc r y=>by
  have m:=y.ne hD (.inl ⟨_,rfl⟩)
  obtain⟨dc,e⟩:=y
  exact⟨dc,by rw[zbL m];exact e⟩
 obtain⟨as,e1,a1⟩:=x.la
 obtain⟨bs,e2,a2⟩:=x.ra
 obtain⟨cs,e3,a3⟩:=x.ba
 have nh:h≠D:=zeb x.obj hD (by intro z;cases z)
 exact⟨by rw[zbL nh];exact x.obj,⟨as,by rw[zbL (Ne.symm n.1)];exact e1,a1.imp kL⟩,⟨bs,by rw[zbL (Ne.symm n.2.1)];exact e2,a2.imp kR⟩,⟨cs,by rw[zbL (Ne.symm n.2.2.1)];exact e3,a3.imp kB⟩,by rw[zbL (Ne.symm n.2.2.2)];exact x.bal,x.d1,x.d2,x.d3,x.d4,x.d5,x.good⟩
theorem zrY {a b c d e x:Addr} (h:x ∉ [a,b,c,d,e]):x≠a∧x≠b∧x≠c∧x≠d∧x≠e:=by
 simp only [List.mem_cons,List.not_mem_nil,or_false,not_or] at h
 exact h
theorem StAt.updD {H:Hp} {h ll lr lb bl D:Addr} {xs:List V} {o:HO} {st:Vbeman.State} (x:StAt A H h ll lr lb bl st) (hD:zeo [h,ll,lr,lb,bl] H D=some (.lst xs)):StAt A (upd H D o) h ll lr lb bl st:=by
 obtain⟨n,hD⟩:=zcS hD
 obtain⟨n1,n2,n4,n5,n3⟩:=zrY n
 unfold StAt at x ⊢
 cases e:st.house with
 | none=>rw[e] at x;obtain⟨dx,z⟩:=x;exact⟨dx,by rw[zbL (Ne.symm n1)];exact z⟩
 | some S =>
  rw[e] at x
  obtain⟨dx,z⟩:=x
  exact⟨dx,z.beside hD ⟨n2,n4,n5,n3⟩⟩
abbrev zhH (P:Program) (w:World) (K:PySem.W.Frag) (mg:Str→Option Value) (base:Heap) (A:Ad):Prop:=FnI P w K mg base "answer_to" 9 ["house","call"] (zic A)
theorem CallsAt.same {H H':Hp} {p:Addr} {cs:List PCall} (h:CallsAt A H p cs) (s:Same H H'):CallsAt A H' p cs:=let ⟨as,e,f⟩:=h;⟨as,s _ _ e,f.imp λ_ _ z=>z.same s⟩
structure LoopAt (A:Ad) (H':Hp) (h ll lr lb bl D pc:Addr) (cs:List (List (List Int))) (i:Nat):Prop where
 st:StAt A H' h ll lr lb bl (after VbemanNeutral.start (cs.take i))
 told:zeo [h,ll,lr,lb,bl] H' D=some (.lst ((PyFlat.told (PyFlat.played VbemanNeutral.step VbemanNeutral.start (cs.take i))).map V.int))
 calls:CallsAt A (zeo [D,h,ll,lr,lb,bl] H') pc (cs.map toP)
 len:(PyFlat.told (PyFlat.played VbemanNeutral.step VbemanNeutral.start (cs.take i))).length≤1001 * i
def zpL (K:PySem.W.Frag):Sp:=λvs H Q _=>∃(a:Addr),vs=[.ref a]∧∃(l:List Int),SqL K H a (l.map V.int)∧l.length≤17000∧PyVbeman.answers_asked l=true∧∀(H':Hp) (p:Addr),H' p=some (.lst ((PyVbeman.answers l).map V.int))→Q (.ref p) H'
end
end Z
namespace Z
open PySem PySem.Spec PyProof.Rows L2
open Vbeman (Line Right House Bid)
theorem zq3 (S:House) (o s t:Nat) (opt:Bool) (q p:Int):Vbeman.onHouse S (.bid o s t opt q p)=if Vbeman.badEnds S s t=true then (S,[-3]) else if Vbeman.BIDS≤S.bids.length then (S,[-5]) else if Vbeman.free S o < max 0 p * q then (S,[-6])
  else ({ S with bids:=S.bids++[⟨S.nextBid,o,s,t,opt,q,p⟩],nextBid:=S.nextBid + 1 },[0,(S.nextBid:Int)]):=rfl
theorem zox (S:House) (k:Nat):Vbeman.onHouse S (.unbid k)=if (S.bids.any λb=>b.number == k)=false then (S,[-3]) else ({ S with bids:=S.bids.filter λb=>b.number != k },[0]):=rfl
theorem zoI (S:House):Vbeman.onHouse S .award=((Vbeman.award Vbeman.ROUNDS S).1,0::Vbeman.bit (Vbeman.winner (Vbeman.award Vbeman.ROUNDS S).1).isNone::Vbeman.row ((Vbeman.award Vbeman.ROUNDS S).2.flatMap λg=>[(g.bid:Int),(g.right:Int),g.amount])):=rfl
theorem zm8 (S:House) (p f:List Int):Vbeman.onHouse S (.settle p f)=if p.length≠S.zones∨f.length≠S.lines.length then (S,[-4]) else if Vbeman.fitsAll p S.lines f=false then (S,[-8])
  else ({ S with till:=S.till + Vbeman.rent p S.lines f - Vbeman.payouts p S.rights,cash:=S.cash - Vbeman.rent p S.lines f,balances:=S.rights.foldl (λl r=>Vbeman.pay l r.owner (Vbeman.value p r)) S.balances },[0,Vbeman.rent p S.lines f,Vbeman.payouts p S.rights]):=rfl
theorem zna (S:House) (p:List Int):Vbeman.onHouse S (.payout p)=if p.length≠S.zones then (S,[-4]) else (S,[0,Vbeman.payouts p S.rights,Vbeman.earnings p S.lines]):=rfl
theorem zm7 {S:House} {k:Nat} {p:List Int} (h:Vbeman.find S k=none):Vbeman.onHouse S (.value k p)=(S,[-3]):=by
 show (match Vbeman.find S k with | none=>_ | some r=>_)=_
 rw[h]
theorem zow {S:House} {k:Nat} {p:List Int} {r:Right} (h:Vbeman.find S k=some r):Vbeman.onHouse S (.value k p)=if p.length≠S.zones then (S,[-4]) else (S,[0,Vbeman.value p r]):=by
 show (match Vbeman.find S k with | none=>_ | some r=>_)=_
 rw[h]
theorem zoF (S:House) (g:List Int):Vbeman.onHouse S (.group g)=if g.length≠S.zones then (S,[-4]) else (S,[0,Vbeman.promised (Vbeman.groupOf g) S.rights,Vbeman.room (Vbeman.groupOf g) S.lines]):=rfl
theorem zoy (S:House):Vbeman.onHouse S .tight=(S,0::(Vbeman.tightest S).2::Vbeman.row (Vbeman.members S.zones (Vbeman.tightest S).1)):=rfl
theorem zoC (S:House) (o:Nat):Vbeman.onHouse S (.money o)=(S,[0,Vbeman.balance S o,Vbeman.free S o]):=rfl
theorem zoA (S:House) (o:Nat) (m:Int):Vbeman.onHouse S (.payin o m)=if m < 0∧Vbeman.free S o < -m then (S,[-6]) else ({ S with balances:=Vbeman.pay S.balances o m,cash:=S.cash - m },[0,Vbeman.balance S o + m]):=rfl
theorem zoE (S:House):Vbeman.onHouse S .house=(S,[0,S.till,S.sales,S.cash]):=rfl
theorem zm9 (S:House) (o:Nat):Vbeman.onHouse S (.rights o)=(S,0::Vbeman.row ((S.rights.filter λr=>r.owner == o).flatMap λr=>[(r.number:Int),(r.source:Int),(r.sink:Int),Vbeman.bit r.option,r.amount])):=rfl
theorem zoz (S:House):Vbeman.onHouse S .state=(S,0::(S.zones:Int)::(S.nextRight:Int)::(S.nextBid:Int) ::
      (Vbeman.row (S.lines.flatMap λl=>[(l.a:Int),(l.b:Int),l.forth,l.back]) ++
      (Vbeman.row (S.rights.flatMap λr=>[(r.number:Int),(r.owner:Int),(r.source:Int),(r.sink:Int),Vbeman.bit r.option,r.amount]) ++
      Vbeman.row (S.bids.flatMap λb=>[(b.number:Int),(b.owner:Int),(b.source:Int),(b.sink:Int),Vbeman.bit b.option,b.left,b.price])))):=rfl
end Z
namespace Z
open PySem PySem.Spec PyProof.Rows L2
open Vbeman (Line Right House Bid)
section
variable {P : Program} {w : World} {K : PySem.W.Frag} {mg : Str → Option Value} {base : Heap} {A : Ad} {f : Addr} {fd : FuncData}
def bidV (r:Bid):List V:=[.int r.number,.int r.owner,.int r.source,.int r.sink,.int (Vbeman.bit r.option),.int r.left,.int r.price]
def zg1 (A:Ad):Sp:=λvs H Q _=>∃(x:Addr) (r:Bid),vs=.ref x::bidV r∧∃dx,H x=some (.ins A.cBid dx [])∧Q .non (upd H x (.ins A.cBid dx (zri r)))
abbrev zf3:=zdy (top 10) 0
abbrev zqw (P:Program) (w:World) (K:PySem.W.Frag) (mg:Str→Option Value) (base:Heap) (A:Ad):Prop:=MkI P w K mg base "Bid" A.cBid 1 ["self","number","owner","source","sink","kind","left","price"] (zg1 A)
theorem zkH (F:Fun K "__init__" "Bid.__init__" zf3 f fd) (T:Txt K mg A):FnOk P w K mg base CX0 1 f fd ["self","number","owner","source","sink","kind","left","price"] (zg1 A):=by
 have sc:FnScope ["self","number","owner","source","sink","kind","left","price"] ["self","number","owner","source","sink","kind","left","price"] (zbK zf3):=fsc
 refine F.ok sc (by rintro _ _ _ _ ⟨x,r,rfl,_⟩;rfl) λcdv Ar outer s H vs Q E hr h=>?_
 obtain⟨x,r,rfl,h⟩:=h
 refine⟨_,(zbC (zbX (pv 0) (pv 1) rfl) (zbC (zbX (pv 0) (pv 2) rfl) (zbC (zbX (pv 0) (pv 3) rfl) (zbC (zbX (pv 0) (pv 4) rfl) (zbC (zbX (pv 0) (pv 5) rfl) (zbC (zbX (pv 0) (pv 6) rfl) (zbF (zbX (pv 0) (pv 7) rfl)))))))),?_⟩
 obtain⟨dx,hx,q⟩:=h
 refine⟨_,rfl,_,rfl,x,_,dx,[],rfl,hx,T.clB,T.naB _ (by decide),(by show 0 < 1000;decide),?_⟩
 refine⟨_,rfl,_,rfl,x,_,dx,[("number",.int r.number)],rfl,zbG,T.clB,T.naB _ (by decide),(by show 1 < 1000;decide),?_⟩
 rw[zcg]
 refine⟨_,rfl,_,rfl,x,_,dx,[("number",.int r.number),("owner",.int r.owner)],rfl,zbG,T.clB,T.naB _ (by decide),(by show 2 < 1000;decide),?_⟩
 rw[zcg]
 refine⟨_,rfl,_,rfl,x,_,dx,[("number",.int r.number),("owner",.int r.owner),("source",.int r.source)],rfl,zbG,T.clB,T.naB _ (by decide),(by show 3 < 1000;decide),?_⟩
 rw[zcg]
 refine⟨_,rfl,_,rfl,x,_,dx,[("number",.int r.number),("owner",.int r.owner),("source",.int r.source),("sink",.int r.sink)],rfl,zbG,T.clB,T.naB _ (by decide),(by show 4 < 1000;decide),?_⟩
 rw[zcg]
 refine⟨_,rfl,_,rfl,x,_,dx,[("number",.int r.number),("owner",.int r.owner),("source",.int r.source),("sink",.int r.sink),("kind",.int (Vbeman.bit r.option))],rfl,zbG,T.clB,T.naB _ (by decide),(by show 5 < 1000;decide),?_⟩
 rw[zcg]
 refine⟨_,rfl,_,rfl,x,_,dx,[("number",.int r.number),("owner",.int r.owner),("source",.int r.source),("sink",.int r.sink),("kind",.int (Vbeman.bit r.option)),("left",.int r.left)],rfl,zbG,T.clB,T.naB _ (by decide),(by show 6 < 1000;decide),?_⟩
 rw[zcg]
 exact q
theorem zpz {H:Hp} {r:Bid} {Q:Addr→Hp→Prop} {E:XK} {vs:List V} (q:∀H2 x,H x=none→Same H H2→BidAt A H2 x r→Q x H2) (hv:vs=bidV r:=by rfl) :
  ∀x dx,H x=none→H dx=none→dx≠x→zg1 A (.ref x::(vs++[])) (upd (upd H dx (.own x)) x (.ins A.cBid dx [])) (λv H2=>v=.non∧Q x H2) E:=by
 intro x dx nx nd ne
 rw[List.append_nil,hv]
 exact⟨x,r,rfl,dx,zbG,rfl,q _ x nx (zfI nx nd) ⟨dx,zbG⟩⟩
def zql (o s t:Nat) (opt:Bool) (q p:Int):List (Str×Int):=[("owner",(o:Int)),("source",(s:Int)),("sink",(t:Int)),("kind",Vbeman.bit opt),("amount",q),("price",p)]
def zmK (A:Ad):Sp:=λvs H Q _=>∃(n:Nat) (d:Addr),vs=[.int n,.ref d]∧∃o s t opt q p,H d=some (.dK (zdg (zql o s t opt q p)))∧∀H' y,Same H H'→H y=none→BidAt A H' y ⟨n,o,s,t,opt,q,p⟩→Q (.ref y) H'
abbrev ziK:=top 56
abbrev zlH (P:Program) (w:World) (K:PySem.W.Frag) (mg:Str→Option Value) (base:Heap) (A:Ad):Prop:=FnI P w K mg base "bid_of" 3 ["number","told"] (zmK A)
theorem zni (F:Fun K "bid_of" "bid_of" ziK f fd) (T:Txt K mg A) (zbq:zqw P w K mg base A):FnOk P w K mg base CX0 3 f fd ["number","told"] (zmK A):=by
 have sc:FnScope ["number","told"] ["number","told"] (zbK ziK):=fsc
 refine F.ok sc (by rintro _ _ _ _ ⟨n,d,rfl,_⟩;rfl) λcdv Ar outer s H vs Q E hr h=>?_
 obtain⟨n,d,rfl,h⟩:=h
 refine⟨_,(zbF (zbJ (zcI zbq (hr.mono (by decide)) (by rfl) (zbB (pv 0) (zbB (zbS (zb8 hr) (pv 1) zbV (λ_ _=>rfl)) (zbB (zbS (zb8 hr) (pv 1) zbV (λ_ _=>rfl)) (zbB (zbS (zb8 hr) (pv 1) zbV (λ_ _=>rfl)) (zbB (zbS (zb8 hr) (pv 1) zbV (λ_ _=>rfl)) (zbB (zbS (zb8 hr) (pv 1) zbV (λ_ _=>rfl)) (zbB (zbS (zb8 hr) (pv 1) zbV (λ_ _=>rfl)) zbD)))))))))),?_⟩
 obtain⟨o,s',t,opt,am,pr,hd,q⟩:=h
 refine⟨_,rfl,⟨_,rfl,_,_,rfl,zdc hd,⟨_,rfl,_,_,rfl,zdc hd,⟨_,rfl,_,_,rfl,zdc hd,⟨_,rfl,_,_,rfl,zdc hd,⟨_,rfl,_,_,rfl,zdc hd,⟨_,rfl,_,_,rfl,zdc hd,zpz (r:=⟨n,o,s',t,opt,am,pr⟩) λH2 y ny sH2 aH2=>?_⟩⟩⟩⟩⟩⟩⟩
 exact q _ y sH2 ny aH2
theorem BidsAt.push {H H2:Hp} {p2 y:Addr} {rs:List Bid} {r:Bid} {as:List Addr} (hA:AllAt (BidAt A H) as rs) (hy:BidAt A H y r) (s:Same H H2) (h2:H2 p2=some (.lst (as.map V.ref++[V.ref y]))):BidsAt A H2 p2 (rs++[r]) :=
 ⟨as++[y],by rw[h2,List.map_append];rfl,(hA.imp λc x z=>z.same s).snoc (hy.same s)⟩
theorem znV {l:List Bid} {r:Bid} {nx:Nat} (hn:(zeg l).Nodup) (hl:∀x∈l,x.number < nx) (hr:r.number=nx):(zeg (l++[r])).Nodup:=by
 unfold zeg at *
 rw[List.map_append,List.nodup_append]
 refine⟨hn,List.nodup_cons.mpr ⟨List.not_mem_nil,List.nodup_nil⟩,λa ha b hb=>?_⟩
 obtain⟨x,hx,rfl⟩:=List.mem_map.mp ha
 have hb:b=r.number:=List.mem_singleton.mp hb
 have:=hl x hx
 omega
theorem Good.bid {S:House} (g:Good S) {b:Bid} (hl:S.bids.length < 10) (hb:zrq S.zones (S.nextBid + 1) b) (hn:b.number=S.nextBid):Good { S with bids:=S.bids++[b],nextBid:=S.nextBid + 1 }:=by
 refine⟨g.z2,g.z6,g.ll,g.rl,g.lo,g.ro,g.nd,g.bl,⟨?_,λx hx=>?_,znV g.nb.nd (λx hx=>(g.nb.all x hx).2.2.1) hn⟩⟩
 ·show (S.bids++[b]).length≤10
  rw[List.length_append,List.length_singleton];omega
 ·rcases List.mem_append.mp hx with hx | hx
  ·have:=g.nb.all x hx
   exact⟨this.1,this.2.1,Nat.lt_succ_of_lt this.2.2.1,this.2.2.2⟩
  ·rw[List.mem_singleton.mp hx];exact hb
theorem BidAt.nh {H:Hp} {h dx ll lr lb bl a:Addr} {S:House} {r:Bid} (z:BidAt A H a r) (x:HouseAt A H h dx ll lr lb bl S):a≠h:=z.ne x.obj (.inr ⟨_,_,_,_,_,_,_,rfl⟩)
abbrev zhb:=top 55
abbrev zkl (P:Program) (w:World) (K:PySem.W.Frag) (mg:Str→Option Value) (base:Heap) (A:Ad):Prop:=FnI P w K mg base "add_bid" 4 ["house","numbers"] (zce A (zir .bid))
theorem zl6 (F:Fun K "add_bid" "add_bid" zhb f fd) (T:Txt K mg A) (zan:zlH P w K mg base A) (zbx:zcH P w K mg base A) (zbw:zcT P w K mg base A) (zaF:zgk P w K mg base A):FnOk P w K mg base CX0 4 f fd ["house","numbers"] (zce A (zir .bid)):=by
 have sc:FnScope ["house","numbers","bid"] ["house","numbers"] (zbK zhb):=fsc
 refine F.ok sc (by rintro _ _ _ _ ⟨h,d,rfl,_⟩;rfl) λcdv Ar outer s H vs Q E hr h=>?_
 obtain⟨h,d,rfl,h⟩:=h
 refine⟨_,(zbC (zbP (i:=2) sc.nd rfl (by first | exact Or.inl rfl | exact Or.inr rfl) (zbH zan (hr.mono (by decide)) (by rfl) (zbB (zbE (pv 0) rfl) (zbB (pv 1) zbD)))) (zbC (zbU (zcW (zcy (zch zbx (hr.mono (by decide)) (pv 0) (zbB (zbE (pv 2) rfl) (zbB (zbE (pv 2) rfl) zbD))))) (zbF (zbJ (zbQ (zbB (zb6 T.i_NOT_THERE (by rfl)) zbD)))) zbM) (zbC (zbU (zbO zcs (zbT zcc (by rfl) T.n_len (by decide +kernel) (zbB (zbE (pv 0) rfl) zbD)) (zb6 T.i_MOST_BIDS (by rfl)) (zbR _)) (zbF (zbJ (zbQ (zbB (zb6 T.i_FULL (by rfl)) zbD)))) zbM) (zbC (zbU (zbO zeY (zch zbw (hr.mono (by decide)) (pv 0) (zbB (zbE (pv 2) rfl) zbD)) (zbH zaF (hr.mono (by decide)) (by rfl) (zbB (pv 2) zbD)) (zbR _)) (zbF (zbJ (zbQ (zbB (zb6 T.i_TOO_DEAR (by rfl)) zbD)))) zbM) (zbC (zbX (pv 0) (zb2 zdw (zbE (pv 0) rfl) (zbQ (zbB (pv 2) zbD))) rfl) (zbC (zbX (pv 0) (zb2 zcK (zbE (pv 2) rfl) zbN) rfl) (zbF (zbJ (zbQ (zbB zbN (zbB (zbE (pv 2) rfl) zbD))))))))))),?_⟩
 obtain⟨dx,ll,lr,lb,bl,S,nums,c,HH,hd,⟨o,s',t,opt,am,pr,rfl,ho,ham,hpr,rfl⟩,q⟩:=h
 have hh:=HH.obj
 refine⟨_,rfl,gH T hh rfl ⟨_,rfl,?_⟩⟩
 refine⟨S.nextBid,d,rfl,o,s',t,opt,am,pr,hd,λH1 y s1 hy1 hY=>?_⟩
 have HH1:=HH.same s1
 have hh1:=HH1.obj
 obtain⟨as,hl,hA⟩:=HH1.ba
 obtain⟨dy,hb⟩:=id hY
 have eo:=zq3 S o s' t opt am pr
 refine⟨_,rfl,_,_,_,rfl,hh1,rfl,⟨_,rfl,gB T hb rfl ⟨_,rfl,gB T hb rfl ?_⟩⟩⟩
 refine⟨h,s',t,rfl,dx,S,ll,lr,lb,bl,hh1,_,rfl,?_⟩
 refine zb9 (λh1=>?_) (λh1=>?_)
 ·refine zbZ q HH s1 (ans:=[-3]) ?_ rfl
  rw[eo,if_pos (by simpa using h1)]
 have h1:¬Vbeman.badEnds S s' t=true:=by simpa using h1
 obtain⟨b1,b2,b3⟩:=zgj h1
 rw[if_neg h1] at eo
 refine⟨_,rfl,gH T hh1 rfl ?_⟩
 refine⟨_,_,rfl,.inl ⟨_,SqL.of hl,rfl⟩,rfl,_,rfl,?_⟩
 rw[List.length_map,hA.1]
 have hg:=HH.good.nb.len
 refine zb9 (λh2=>?_) (λh2=>?_)
 ·have h2:(S.bids.length:Int)=10:=by injection (of_decide_eq_true h2)
  refine zbZ q HH s1 (ans:=[-5]) ?_ rfl
  rw[eo,if_pos (show Vbeman.BIDS≤S.bids.length by show 10≤_;omega)]
 have h2:¬(S.bids.length:Int)=10:=λz=>h2 (decide_eq_true (by rw[z]))
 rw[if_neg (show ¬Vbeman.BIDS≤S.bids.length by show ¬10≤_;omega)] at eo
 refine⟨_,rfl,_,_,_,rfl,hh1,rfl,⟨_,rfl,gB T hb rfl ?_⟩⟩
 refine⟨h,o,rfl,ho,dx,S,ll,lr,lb,bl,HH1,λH2 s2=>?_⟩
 have hY2:=hY.same s2
 refine⟨_,rfl,?_⟩
 refine⟨y,rfl,_,hY2,ham,_,_,rfl,rfl,_,rfl,?_⟩
 have s12:=s1.trans s2
 have HH2:=HH.same s12
 have hh2:=HH2.obj
 refine zb9 (λh3=>?_) (λh3=>?_)
 ·refine zbZ q HH s12 (ans:=[-6]) ?_ rfl
  have h3':Vbeman.free S o < max 0 pr * am:=of_decide_eq_true h3
  rw[eo,if_pos h3']
 have h3:¬Vbeman.free S o < max 0 pr * am:=λz=>h3 (decide_eq_true z)
 rw[if_neg h3] at eo
 rw[eo] at q
 refine⟨_,rfl,gH T hh2 rfl ⟨_,rfl,?_⟩⟩
 refine⟨by show 1≤sizeLine;decide,λp hp=>?_⟩
 have s3:Same H2 (upd H2 p (.lst [V.ref y])):=Same.upd hp
 have hp3:(upd H2 p (.lst [V.ref y])) p=some (.lst [V.ref y]):=zbG
 generalize (upd H2 p (.lst [V.ref y]))=H3 at s3 hp3 ⊢
 refine⟨lb,p,_,_,rfl,rfl,s3 _ _ (s2 _ _ hl),hp3,?_,λp2 hp2=>?_⟩
 ·rw[List.length_map,hA.1]
  exact Nat.le_of_lt (zb0 (show S.bids.length + 1≤1000 by omega))
 have s4:Same H3 (upd H3 p2 (.lst (as.map V.ref++[V.ref y]))):=Same.upd hp2
 have hp4:(upd H3 p2 (.lst (as.map V.ref++[V.ref y]))) p2=some (.lst (as.map V.ref++[V.ref y])):=zbG
 generalize (upd H3 p2 (.lst (as.map V.ref++[V.ref y])))=H4 at s4 hp4 ⊢
 have s24:=s3.trans s4
 have s14:=s12.trans s24
 have HH4:=HH.same s14
 have hh4:=HH4.obj
 have hB4:=BidsAt.push (hA.imp λc x z=>z.same s2) hY2 s24 hp4
 have hY4:=hY2.same s24
 have nyh:=hY4.nh HH4
 obtain⟨dy4,hb4⟩:=id hY4
 refine⟨_,rfl,h,_,dx,_,rfl,hh4,T.clH,T.naH _ (by decide),by show 10 < 1000;decide,?_⟩
 have hb5:(upd H4 h (.ins A.cHouse dx (zdO "bids" (.ref p2) (zbY S ll lr lb bl)))) y=some (.ins A.cBid dy4 (zri ⟨S.nextBid,o,s',t,opt,am,pr⟩)):=by rw[zbL nyh];exact hb4
 refine⟨_,rfl,gB T hb5 rfl ⟨_,_,rfl,rfl,?_⟩⟩
 refine⟨_,rfl,h,_,dx,_,rfl,zbG,T.clH,T.naH _ (by decide),by show 10 < 1000;decide,?_⟩
 rw[zcg]
 have hb6:(upd H4 h (.ins A.cHouse dx (zdO "next_bid_number" (V.int (((S.nextBid:Nat):Int) + 1)) (zdO "bids" (.ref p2) (zbY S ll lr lb bl))))) y=some (.ins A.cBid dy4 (zri ⟨S.nextBid,o,s',t,opt,am,pr⟩)):=by rw[zbL nyh];exact hb4
 refine⟨_,rfl,gB T hb6 rfl ?_⟩
 have G4:=HH.good.bid (b:=⟨S.nextBid,o,s',t,opt,am,pr⟩) (by omega) ⟨⟨b1,b2,b3⟩,ho,Nat.lt_succ_self _,ham,hpr⟩ rfl
 have np:ll≠p2:=by
  obtain⟨bs,e2,_⟩:=HH2.la
  exact zbI (s3 _ _ e2) hp2
 have npb:p2≠bl:=(zbI (s3 _ _ HH2.bal) hp2).symm
 exact zcZ q (dx:=dx) (ll1:=ll) (lr1:=lr) (lb1:=p2) (bl1:=bl) (HH4.finB (ll':=ll) (lr':=lr) (lb':=p2) zbG (by rw[zbL HH4.nbh];exact HH4.bal) zb7 HH4.la HH4.ra hB4 HH.d1 HH.d2 HH.d3 npb np G4) (zdP s14 zb7 (.inl rfl) (.inl rfl) (.inr ((s12.trans s3).free hp2))) rfl
structure BuiltB (A:Ad) (H H':Hp) (D:Addr) (rs:List Bid):Prop where
 same:Same H H'
 fresh:H D=none
 ex:BidsAt A H' D rs
theorem BuiltB.start {H:Hp} {D:Addr} (h:H D=none):BuiltB A H (upd H D (.lst [])) D []:=⟨Same.upd h,h,[],zbG,AllAt.nil⟩
theorem BuiltB.app {H H1 H2:Hp} {D a:Addr} {rs:List Bid} {r:Bid} (b:BuiltB A H H1 D rs) (s:Same H1 H2) (hR:BidAt A H2 a r) (hz:rs.length≤1000) :
  ∃xs,H2 D=some (.lst xs)∧xs.length < sizeLine∧BuiltB A H (upd H2 D (.lst (xs++[V.ref a]))) D (rs++[r]):=by
 obtain⟨as,e,hA⟩:=b.ex
 have e2:=s _ _ e
 refine⟨_,e2,?_,⟨λc o h=>?_,b.fresh,as++[a],?_,?_⟩⟩
 ·rw[List.length_map,hA.1];exact zb0 hz
 ·rw[zbL (zbI h b.fresh)];exact s _ _ (b.same _ _ h)
 ·rw[zbG,List.map_append];rfl
 ·have nD:∀c r,BidAt A H2 c r→BidAt A (L2.upd H2 D (.lst (as.map V.ref++[V.ref a]))) c r:=λc r ⟨dx,h⟩=>⟨dx,by rw[zbL (zeb h e2 (by intro z;cases z))];exact h⟩
  exact (hA.imp λc r h=>nD c r (h.same s)).snoc (nD _ _ hR)
def zh3 (A:Ad):Sp:=λvs H Q _=>∃(lr:Addr) (k:Nat) (q:Int),vs=[.ref lr,.int k,.int q]∧∃rs,rs.length≤1000∧BidsAt A H lr rs∧∀H' p,Same H H'→H p=none→BidsAt A H' p (zcu rs k q)→Q (.ref p) H'
abbrev zfa:=top 16
abbrev zfu (P:Program) (w:World) (K:PySem.W.Frag) (mg:Str→Option Value) (base:Heap) (A:Ad):Prop:=FnI P w K mg base "with_left" 3 ["bids","number","left"] (zh3 A)
theorem zjJ (F:Fun K "with_left" "with_left" zfa f fd) (T:Txt K mg A) (zbq:zqw P w K mg base A):FnOk P w K mg base CX0 3 f fd ["bids","number","left"] (zh3 A):=by
 have sc:FnScope ["bids","number","left","changed","bid"] ["bids","number","left"] (zbK zfa):=fsc
 refine F.ok sc (by rintro _ _ _ _ ⟨lr,k,am,rfl,_⟩;rfl) λcdv Ar outer s H vs Q E hr h=>?_
 obtain⟨lr,k,am,rfl,h⟩:=h
 refine⟨_,(zbC (zbP (i:=3) sc.nd rfl (by first | exact Or.inl rfl | exact Or.inr rfl) (zbQ zbD)) (zbC (zdv PassesOwn.never rfl (zcD (pv 0)) (zbW (i:=4) sc.nd (by rfl) (by first | exact Or.inl rfl | exact Or.inr rfl) (by first | exact Or.inl rfl | exact Or.inr rfl)) (zbF (zbU (zbO zeG (zbE (pv 4) rfl) (pv 1) (zbR _)) (zbF (zcf (zeF PySem.F.plainAttrs_list PySem.F.slot_list_append PySem.F.type_list_append zcX (pv 3) (zbB (pv 4) zbD)))) (zbF (zbU (zbO zhe (pv 2) zbN (zbR _)) (zbF (zcf (zeF PySem.F.plainAttrs_list PySem.F.slot_list_append PySem.F.type_list_append zcX (pv 3) (zbB (zcI zbq (hr.mono (by decide)) (by rfl) (zbB (pv 1) (zbB (zbE (pv 4) rfl) (zbB (zbE (pv 4) rfl) (zbB (zbE (pv 4) rfl) (zbB (zbE (pv 4) rfl) (zbB (pv 2) (zbB (zbE (pv 4) rfl) zbD)))))))) zbD)))) zbM))))) (zbF (zbJ (pv 3))))),?_⟩
 obtain⟨rs,hz,⟨as,hl,hA⟩,q⟩:=h
 refine⟨(by show 0≤sizeLine;decide),λD hD=>?_⟩
 refine⟨_,rfl,?_⟩
 refine⟨lr,rfl,⟨_,SqL.of (Same.upd hD _ _ hl)⟩,?_⟩
 refine zcR (K:=K) (xs:=as.map V.ref) (λi σ H'=>(∃o,σ=[some (.ref lr),some (.int k),some (.int am),some (.ref D),o])∧BuiltB A H H' D (zcu (rs.take i) k am)) ⟨⟨none,rfl⟩,?_⟩ (λi σ H' _ h=>SqL.of (h.2.same _ _ hl)) (λi x σ H' hx h=>?_) (λσ H' h=>?_)
 ·have e:zcu (rs.take 0) k am=[]:=by
   unfold zcu;split <;> rfl
  rw[e]
  exact BuiltB.start hD
 ·obtain⟨⟨o,rfl⟩,b⟩:=h
  obtain⟨a,r,rfl,hr',hR0⟩:=hA.get hx
  have hR1:=hR0.same b.same
  obtain⟨dx,hR⟩:=hR1
  have hz':(zcu (rs.take i) k am).length≤1000:=Nat.le_trans (zg2 _ _ _) (by rw[List.length_take];omega)
  have es:=zjy (rs.take i) r k am
  rw[←L2.zb4 hr'] at es
  obtain⟨asD,hD',hAD⟩:=b.ex
  refine⟨_,rfl,gB T hR rfl ⟨_,rfl,⟨rfl,_,rfl,zb9 (λh1=>?_) (λh1=>?_)⟩⟩⟩
  ·have h1:=neI h1
   rw[if_neg h1] at es
   obtain⟨xs,e1,e2,b2⟩:=b.app (Same.refl _) ⟨dx,hR⟩ hz'
   rw[←es] at b2
   exact⟨_,rfl,.inl ⟨rfl,_,SqL.of hD'⟩,_,rfl,D,xs,_,rfl,rfl,e1,e2,⟨_,rfl⟩,b2⟩
  ·have h1:=zll h1
   subst h1
   rw[if_pos rfl] at es
   refine⟨_,rfl,⟨_,_,rfl,rfl,⟨_,rfl,zb9 (λh2=>?_) (λh2=>?_)⟩⟩⟩
   ·rw[if_pos (of_decide_eq_true h2)] at es
    refine⟨_,rfl,.inl ⟨rfl,_,SqL.of hD'⟩,?_⟩
    refine⟨_,rfl,⟨_,rfl,gB T hR rfl ⟨_,rfl,gB T hR rfl ⟨_,rfl,gB T hR rfl ⟨_,rfl,gB T hR rfl ⟨_,rfl,⟨_,rfl,gB T hR rfl (zpz (r:={r with left:=am}) λH2 x nx sH2 aH2=>?_)⟩⟩⟩⟩⟩⟩⟩
    obtain⟨xs,e1,e2,b2⟩:=b.app sH2 aH2 hz'
    rw[←es] at b2
    exact⟨D,xs,_,rfl,rfl,e1,e2,⟨_,rfl⟩,b2⟩
   ·rw[if_neg (λz=>h2 (decide_eq_true z)),List.append_nil] at es
    rw[←es] at b
    exact⟨⟨_,rfl⟩,b⟩
 ·obtain⟨⟨o,rfl⟩,b⟩:=h
  rw[List.length_map,hA.1,List.take_length] at b
  refine⟨_,rfl,?_⟩
  exact q _ D b.same hD b.ex
theorem Good.left {S:House} (g:Good S) {k:Nat} {q:Int} (hq:q≤1000000000):Good { S with bids:=zcu S.bids k q }:=by
 refine⟨g.z2,g.z6,g.ll,g.rl,g.lo,g.ro,g.nd,g.bl,⟨Nat.le_trans (zg2 _ _ _) g.nb.len,λx hx=>?_,g.nb.nd.sublist (zjz _ _ _)⟩⟩
 obtain⟨r,hr,rfl | ⟨_,h1,rfl⟩⟩:=zkr hx
 ·exact g.nb.all _ hr
 ·have:=g.nb.all r hr
  exact⟨this.1,this.2.1,this.2.2.1,⟨h1,hq⟩,this.2.2.2.2⟩
def znZ (nums:List (Str×Int)) (c:Vbeman.Call):Prop:=∃(k:Nat),nums=([("bid",(k:Int))]:List (Str×Int))∧c=.unbid k
theorem zo6 (l:List Bid) (k:Nat):(l.any λb=>b.number == k)=(l.find? λb=>b.number == k).isSome:=by
 rw[List.isSome_find?]
abbrev zdp:=top 57
abbrev zeT (P:Program) (w:World) (K:PySem.W.Frag) (mg:Str→Option Value) (base:Heap) (A:Ad):Prop:=FnI P w K mg base "take_bid_away" 4 ["house","numbers"] (zce A znZ)
theorem zgF (F:Fun K "take_bid_away" "take_bid_away" zdp f fd) (T:Txt K mg A) (zbm:zfu P w K mg base A) (zax:zb1 P w K mg base A):FnOk P w K mg base CX0 4 f fd ["house","numbers"] (zce A znZ):=by
 have sc:FnScope ["house","numbers"] ["house","numbers"] (zbK zdp):=fsc
 refine F.ok sc (by rintro _ _ _ _ ⟨h,d,rfl,_⟩;rfl) λcdv Ar outer s H vs Q E hr h=>?_
 obtain⟨h,d,rfl,h⟩:=h
 refine⟨_,(zbC (zbU (zdu (zdB (zbH zax (hr.mono (by decide)) (by rfl) (zbB (zbE (pv 0) rfl) (zbB (zbS (zb8 hr) (pv 1) zbV (λ_ _=>rfl)) zbD))))) (zbF (zbJ (zbQ (zbB (zb6 T.i_NOT_THERE (by rfl)) zbD)))) zbM) (zbC (zbX (pv 0) (zbH zbm (hr.mono (by decide)) (by rfl) (zbB (zbE (pv 0) rfl) (zbB (zbS (zb8 hr) (pv 1) zbV (λ_ _=>rfl)) (zbB zbN zbD)))) rfl) (zbF (zbJ (zbQ (zbB zbN zbD)))))),?_⟩
 obtain⟨dx,ll,lr,lb,bl,S,nums,c,HH,hd,⟨k,rfl,rfl⟩,q⟩:=h
 have hh:=HH.obj
 have eo:=zox S k
 rw[zo6] at eo
 refine⟨_,rfl,gH T hh rfl ⟨_,rfl,_,_,rfl,zdc hd,?_⟩⟩
 refine zo3 T HH.ba λv hv=>?_
 cases e:S.bids.find? λr=>r.number == k with
 | none =>
  rw[e] at hv eo
  have hv:v=.non:=hv
  subst hv
  refine⟨_,rfl,zgc ?_⟩
  exact zbZ q HH (Same.refl _) (ans:=[-3]) (by rw[eo];rfl) rfl
 | some r =>
  rw[e] at hv eo
  obtain⟨a,rfl,_⟩:=hv
  rw[if_neg (by simp)] at eo
  rw[eo] at q
  refine⟨_,rfl,zi7 ?_⟩
  refine⟨_,rfl,gH T hh rfl ⟨_,rfl,_,_,rfl,zdc hd,?_⟩⟩
  refine⟨lb,k,0,rfl,S.bids,Nat.le_trans HH.good.nb.len (by decide),HH.ba,λH1 p1 s1 hp1 h1'=>?_⟩
  have HH1:=HH.same s1
  have hh1:=HH1.obj
  have G1:=HH.good.left (k:=k) (q:=0) (by decide)
  refine⟨_,rfl,h,_,dx,_,rfl,hh1,T.clH,T.naH _ (by decide),by show 10 < 1000;decide,?_⟩
  have np:ll≠p1:=by
   obtain⟨bs,e2,_⟩:=HH.la
   exact zbI e2 hp1
  refine zcZ q (dx:=dx) (ll1:=ll) (lr1:=lr) (lb1:=p1) (bl1:=bl) (HH1.finB (ll':=ll) (lr':=lr) (lb':=p1) (S':={ S with bids:=S.bids.filter λb=>b.number != k }) zbG (by rw[zbL HH1.nbh];exact HH1.bal) zb7 HH1.la HH1.ra ?_ HH.d1 HH.d2 HH.d3 (zbI HH.bal hp1).symm np ?_) (zdP s1 zb7 (.inl rfl) (.inl rfl) (.inr hp1)) rfl
  ·exact h1'
  ·exact G1
end
end Z
namespace Z
open PySem PySem.Spec PyProof.Rows L2
open Vbeman (Line Right House Bid)
section
variable {P : Program} {w : World} {K : PySem.W.Frag} {mg : Str → Option Value} {base : Heap} {A : Ad} {f : Addr} {fd : FuncData}
def zqa (b:Bid):Int×Int:=(0 - b.price,(b.number:Int))
def zpj (A:Ad):Sp:=λvs H Q _=>∃(a:Addr),vs=[.ref a]∧∃b:Bid,BidAt A H a b∧∀H' T,Same H H'→H' T=some (.tup [.int (zqa b).1,.int (zqa b).2])→Q (.ref T) H'
abbrev zg4:=top 60
abbrev zki (P:Program) (w:World) (K:PySem.W.Frag) (mg:Str→Option Value) (base:Heap) (A:Ad):Prop:=FnI P w K mg base "rank_of" 1 ["bid"] (zpj A)
theorem zlY (F:Fun K "rank_of" "rank_of" zg4 f fd) (T:Txt K mg A):FnOk P w K mg base CX0 1 f fd ["bid"] (zpj A):=by
 have sc:FnScope ["bid"] ["bid"] (zbK zg4):=fsc
 refine F.ok sc (by rintro _ _ _ _ ⟨a,rfl,_⟩;rfl) λcdv Ar outer s H vs Q E hr h=>?_
 obtain⟨a,rfl,h⟩:=h
 refine⟨_,(zbF (zbJ (zpw (zbB (zb2 zcz zbN (zbE (pv 0) rfl)) (zbB (zbE (pv 0) rfl) zbD))))),?_⟩
 obtain⟨b,⟨dx,hB⟩,q⟩:=h
 refine⟨_,rfl,gB T hB rfl ⟨_,_,rfl,rfl,⟨_,rfl,gB T hB rfl ?_⟩⟩⟩
 refine⟨by show 2≤sizeLine;decide,λT hT=>?_⟩
 exact q _ T (Same.upd hT) zbG
theorem zmV {H:Hp} {as:List Addr} {bs:List Bid} {ps:List ((Int×Int)×Addr)} (hA:AllAt (BidAt A H) as bs) (hn:(zeg bs).Nodup) (hp:ps.Perm ((bs.map zqa).zip as)) (hw:ps.Pairwise zkU):AllAt (BidAt A H) (ps.map (·.2)) (Vbeman.ranked bs):=by
 let f:Addr×Bid→(Int×Int)×Addr:=λt=>(zqa t.2,t.1)
 have e1:(bs.map zqa).zip as=(as.zip bs).map f:=by
  have:∀(as:List Addr) (bs:List Bid),(bs.map zqa).zip as=(as.zip bs).map f:=by
   intro as
   induction as with
   | nil=>intro bs;rw[List.zip_nil_right];rfl
   | cons a as ih =>
    intro bs
    cases bs with
    | nil=>rfl
    | cons b bs =>
     rw[List.map_cons,List.zip_cons_cons,List.zip_cons_cons,List.map_cons,ih]
  exact this as bs
 obtain⟨t',h1,h2⟩:=zjF (f:=f) hp (as.zip bs) e1
 have e2:(as.zip bs).map (·.2)=bs:=List.map_snd_zip (Nat.le_of_eq hA.1.symm)
 have hp2:(t'.map (·.2)).Perm bs:=by rw[←e2];exact h1.map _
 have hw2:(t'.map (·.2)).Pairwise zhI:=by
  rw[h2,List.pairwise_map] at hw
  rw[List.pairwise_map]
  refine hw.imp λ{x y} h=>?_
  have h:(0 - x.2.price < 0 - y.2.price)∨(0 - x.2.price=0 - y.2.price∧(x.2.number:Int)≤(y.2.number:Int)):=h
  unfold zhI
  omega
 have e3:t'.map (·.2)=Vbeman.ranked bs:=zid (hp2.trans (zc5 bs).symm) hw2 (zfC bs) (by
  have:(zeg (Vbeman.ranked bs)).Perm (zeg bs):=(zc5 bs).map _
  exact this.nodup_iff.mpr hn)
 have e4:ps.map (·.2)=t'.map (·.1):=by rw[h2,List.map_map];rfl
 rw[e4,←e3]
 refine⟨by rw[List.length_map,List.length_map],λi a b ha hb=>?_⟩
 rw[List.getElem?_map] at ha hb
 cases e:t'[i]? with
 | none=>rw[e] at ha;cases ha
 | some t =>
  rw[e] at ha hb
  cases ha;cases hb
  have hm:t∈as.zip bs:=h1.mem_iff.mp (List.mem_of_getElem? e)
  obtain⟨j,hj⟩:=List.getElem?_of_mem hm
  have hj:(as.zip bs)[j]? = some (t.1,t.2):=hj
  rw[List.getElem?_zip_eq_some] at hj
  exact hA.2 j _ _ hj.1 hj.2
def zhX (S:House):Option Bid:=if S.rights.length=30 then none else zlv S
def zmJ (A:Ad):Sp:=λvs H Q _=>∃(h:Addr),vs=[.ref h]∧∃dx ll lr lb bl S,HouseAt A H h dx ll lr lb bl S∧∀H' v,Same H H'→zn9 A H' v (zhX S)→Q v H'
abbrev zdI:=top 59
abbrev ze4 (P:Program) (w:World) (K:PySem.W.Frag) (mg:Str→Option Value) (base:Heap) (A:Ad):Prop:=FnI P w K mg base "first_to_get" 6 ["house"] (zmJ A)
theorem zhj (F:Fun K "first_to_get" "first_to_get" zdI f fd) (T:Txt K mg A) (za6:zct P w K mg base A) (zaU:zki P w K mg base A) (zaN:zcA P w K mg base A):FnOk P w K mg base CX0 6 f fd ["house"] (zmJ A):=by
 have sc:FnScope ["house","slacks","bid"] ["house"] (zbK zdI):=fsc
 refine F.ok sc (by rintro _ _ _ _ ⟨h,rfl,_⟩;rfl) λcdv Ar outer s H vs Q E hr h=>?_
 obtain⟨h,rfl,h⟩:=h
 refine⟨_,(zbC (zbU (zbO zcs (zbT zcc (by rfl) T.n_len (by decide +kernel) (zbB (zbE (pv 0) rfl) zbD)) (zb6 T.i_MOST_RIGHTS (by rfl)) (zbR _)) (zbF (zbJ zmZ)) zbM) (zbC (zbP (i:=1) sc.nd rfl (by first | exact Or.inl rfl | exact Or.inr rfl) (zbH za6 (hr.mono (by decide)) (by rfl) (zbB (zbE (pv 0) rfl) (zbB (zbE (pv 0) rfl) (zbB (zbE (pv 0) rfl) zbD))))) (zbC (zdv PassesOwn.never rfl (zcD (zop zaU (hr.mono (by decide)) (by rfl) T.n_sorted (by rfl) (zbB (zbE (pv 0) rfl) zbD))) (zbW (i:=2) sc.nd (by rfl) (by first | exact Or.inl rfl | exact Or.inr rfl) (by first | exact Or.inl rfl | exact Or.inr rfl)) (zbF (zbU (zbO zhe (zbH zaN (hr.mono (by decide)) (by rfl) (zbB (pv 1) (zbB (zbE (pv 2) rfl) (zbB (zbE (pv 2) rfl) zbD)))) zbN (zbR _)) (zbF (zbJ (pv 2))) zbM))) (zbF (zbJ zmZ))))),?_⟩
 obtain⟨dx,ll,lr,lb,bl,S,HH,q⟩:=h
 have hh:=HH.obj
 obtain⟨as,hl,hA⟩:=HH.ra
 unfold zhX at q
 refine⟨_,rfl,gH T hh rfl ?_⟩
 refine⟨_,_,rfl,.inl ⟨_,SqL.of hl,rfl⟩,rfl,_,rfl,?_⟩
 rw[List.length_map,hA.1]
 refine zb9 (λh1=>?_) (λh1=>?_)
 ·have h1:(S.rights.length:Int)=30:=by injection (of_decide_eq_true h1)
  rw[if_pos (by omega)] at q
  exact q _ _ (Same.refl _) rfl
 have h1:¬(S.rights.length:Int)=30:=λz=>h1 (decide_eq_true (by rw[z]))
 rw[if_neg (by omega)] at q
 refine⟨_,rfl,gH T hh rfl ⟨_,rfl,gH T hh rfl ⟨_,rfl,gH T hh rfl ?_⟩⟩⟩
 refine⟨S.zones,ll,lr,rfl,_,_,HH.good.z6,HH.net,λH1 p1 s1 hp1 h1'=>?_⟩
 have HH1:=HH.same s1
 have hh1:=HH1.obj
 obtain⟨bs,hlb,hB⟩:=HH1.ba
 have hbl:=HH.good.nb.len
 refine⟨_,rfl,gH T hh1 rfl ?_⟩
 refine⟨_,rfl,lb,bs,S.bids.map zqa,rfl,SqL.of hlb,by rw[List.length_map];exact hB.1.symm,by have:=hB.1;omega,λi b k H2 Q' hb hk s2 q'=>?_,λps H2 D hp hw hD s2 h2=>?_⟩
 ·rw[List.getElem?_map] at hk
  cases e:S.bids[i]? with
  | none=>rw[e] at hk;cases hk
  | some x =>
   rw[e] at hk
   cases hk
   exact⟨b,rfl,x,(hB.2 i b x hb e).same s2,λH3 T s3 h3=>q' H3 T s3 h3⟩
 have hR:=zmV hB HH.good.nb.nd hp hw
 have e2:ps.map (λp=>V.ref p.2)=(ps.map (·.2)).map V.ref:=by rw[List.map_map];rfl
 rw[e2] at h2
 generalize ps.map (·.2)=cs at hR h2
 refine⟨D,rfl,⟨_,SqL.of h2⟩,?_⟩
 unfold zlv at q
 refine zcR (K:=K) (xs:=cs.map V.ref) (λi σ H'=>(∃o,σ=[some (.ref h),some (.ref p1),o])∧Same H2 H'∧((Vbeman.ranked S.bids).take i).find? (λb=>decide (0 < Vbeman.mostFor S.zones S.lines S.rights b.source b.sink))=none) ⟨⟨none,rfl⟩,Same.refl _,rfl⟩ (λi σ H' _ h=>SqL.of (h.2.1 _ _ h2)) (λi x σ H' hx h=>?_) (λσ H' h=>?_)
 ·obtain⟨⟨o,rfl⟩,s3,hn⟩:=h
  obtain⟨a,b,rfl,hb',hb0⟩:=hR.get hx
  have hb3:=(hb0.same s2).same s3
  obtain⟨db,hb⟩:=id hb3
  have tf:=zjq hb' hn
  have hmem:b∈S.bids:=(zc5 S.bids).mem_iff.mp (List.mem_of_getElem? hb')
  have hO:=HH.good.nb.all b hmem
  refine⟨_,rfl,⟨_,rfl,gB T hb rfl ⟨_,rfl,gB T hb rfl ?_⟩⟩⟩
  refine⟨p1,b.source,b.sink,rfl,S.zones,_,zco _ _ _,HH.good.z6,hO.1.1,hO.1.2.1,hO.1.2.2,s3 _ _ (s2 _ _ h1'),λH4 s4=>?_⟩
  rw[zfH]
  refine⟨_,_,rfl,rfl,_,rfl,?_⟩
  refine zb9 (λh5=>?_) (λh5=>?_)
  ·refine⟨_,rfl,?_⟩
   refine q _ _ (((s1.trans s2).trans s3).trans s4) ?_
   rw[tf.1 (decide_eq_true (of_decide_eq_true h5))]
   exact⟨a,rfl,hb3.same s4⟩
  ·refine⟨⟨_,rfl⟩,s3.trans s4,tf.2 λz=>h5 ?_⟩
   exact decide_eq_true (of_decide_eq_true z)
 ·obtain⟨⟨o,rfl⟩,s3,hn⟩:=h
  rw[List.length_map,hR.1,List.take_length] at hn
  rw[hn] at q
  exact q _ _ ((s1.trans s2).trans s3) rfl
theorem zl8 {S:House} {b:Bid} (g:Good S) (h:zhX S=some b):b∈S.bids∧S.rights.length < 30∧0 < Vbeman.mostFor S.zones S.lines S.rights b.source b.sink∧Vbeman.winner S=some (b,min b.left (Vbeman.mostFor S.zones S.lines S.rights b.source b.sink)):=by
 unfold zhX at h
 have hr:=g.rl
 split at h
 ·cases h
 ·rename_i hne
  have hm:b∈S.bids:=(zc5 S.bids).mem_iff.mp (List.mem_of_find?_eq_some h)
  have hp:=List.find?_some h
  refine⟨hm,by omega,of_decide_eq_true hp,?_⟩
  rw[zjm S λb hb=>(g.nb.all b hb).2.2.2.1.1,if_neg (show ¬Vbeman.RIGHTS≤S.rights.length by show ¬30≤_;omega),h]
  rfl
theorem zii {S:House} (g:Good S) (h:zhX S=none):Vbeman.winner S=none:=by
 unfold zhX at h
 have hr:=g.rl
 rw[zjm S λb hb=>(g.nb.all b hb).2.2.2.1.1]
 split at h
 ·rename_i he
  rw[if_pos (show Vbeman.RIGHTS≤S.rights.length by show 30≤_;omega)]
 ·rename_i hne
  rw[if_neg (show ¬Vbeman.RIGHTS≤S.rights.length by show ¬30≤_;omega),h]
  rfl
def zjv (A:Ad):Sp:=λvs H Q _=>∃(h a:Addr),vs=[.ref h,.ref a]∧∃dx ll lr lb bl S b,HouseAt A H h dx ll lr lb bl S∧BidAt A H a b∧b∈S.bids∧S.rights.length < 30∧0 < Vbeman.mostFor S.zones S.lines S.rights b.source b.sink ∧
 ∀H' p lr' lb',HouseAt A H' h dx ll lr' lb' bl (zdh S b (min b.left (Vbeman.mostFor S.zones S.lines S.rights b.source b.sink)))→(∀c o,H c=some o→c≠h→c≠bl→H' c=some o)→H lr'=none→H lb'=none→H p=none →
  H' p=some (.lst ([(b.number:Int),(S.nextRight:Int),min b.left (Vbeman.mostFor S.zones S.lines S.rights b.source b.sink)].map V.int))→Q (.ref p) H'
theorem zq4 (x y:Int):(if y < x then y else x)=min x y:=by
 rw[Int.min_def]
 split <;> split <;> omega
abbrev zf1:=top 61
abbrev ziv (P:Program) (w:World) (K:PySem.W.Frag) (mg:Str→Option Value) (base:Heap) (A:Ad):Prop:=FnI P w K mg base "award_to" 6 ["house","bid"] (zjv A)
theorem zkF (F:Fun K "award_to" "award_to" zf1 f fd) (T:Txt K mg A) (za6:zct P w K mg base A) (zbu:zeQ P w K mg base A) (zbA:zeV P w K mg base A) (zbm:zfu P w K mg base A) (zaN:zcA P w K mg base A):FnOk P w K mg base CX0 6 f fd ["house","bid"] (zjv A):=by
 have sc:FnScope ["house","bid","slacks","amount","right"] ["house","bid"] (zbK zf1):=fsc
 refine F.ok sc (by rintro _ _ _ _ ⟨h,a,rfl,_⟩;rfl) λcdv Ar outer s H vs Q E hr h=>?_
 obtain⟨h,a,rfl,h⟩:=h
 refine⟨_,(zbC (zbP (i:=2) sc.nd rfl (by first | exact Or.inl rfl | exact Or.inr rfl) (zbH za6 (hr.mono (by decide)) (by rfl) (zbB (zbE (pv 0) rfl) (zbB (zbE (pv 0) rfl) (zbB (zbE (pv 0) rfl) zbD))))) (zbC (zbP (i:=3) sc.nd rfl (by first | exact Or.inl rfl | exact Or.inr rfl) (zbT (zhx rfl) (by rfl) T.n_min (by decide +kernel) (zbB (zbE (pv 1) rfl) (zbB (zbH zaN (hr.mono (by decide)) (by rfl) (zbB (pv 2) (zbB (zbE (pv 1) rfl) (zbB (zbE (pv 1) rfl) zbD)))) zbD)))) (zbC (zbP (i:=4) sc.nd rfl (by first | exact Or.inl rfl | exact Or.inr rfl) (zcI zbu (hr.mono (by decide)) (by rfl) (zbB (zbE (pv 0) rfl) (zbB (zbE (pv 1) rfl) (zbB (zbE (pv 1) rfl) (zbB (zbE (pv 1) rfl) (zbB (zbE (pv 1) rfl) (zbB (pv 3) zbD)))))))) (zbC (zcf (zch zbA (hr.mono (by decide)) (pv 0) (zbB (pv 4) (zbB (zbE (pv 1) rfl) zbD)))) (zbC (zbX (pv 0) (zbH zbm (hr.mono (by decide)) (by rfl) (zbB (zbE (pv 0) rfl) (zbB (zbE (pv 1) rfl) (zbB (zb2 zcz (zbE (pv 1) rfl) (pv 3)) zbD)))) rfl) (zbF (zbJ (zbQ (zbB (zbE (pv 1) rfl) (zbB (zbE (pv 4) rfl) (zbB (pv 3) zbD))))))))))),?_⟩
 obtain⟨dx,ll,lr,lb,bl,S,b,HH,hb0,hm,h30,hpos,q⟩:=h
 have hh:=HH.obj
 obtain⟨db,hb⟩:=id hb0
 have hO:=HH.good.nb.all b hm
 refine⟨_,rfl,gH T hh rfl ⟨_,rfl,gH T hh rfl ⟨_,rfl,gH T hh rfl ?_⟩⟩⟩
 refine⟨S.zones,ll,lr,rfl,_,_,HH.good.z6,HH.net,λH1 p1 s1 hp1 h1'=>?_⟩
 have hb1:=s1 _ _ hb
 refine⟨_,rfl,gB T hb1 rfl ⟨_,rfl,⟨_,rfl,gB T hb1 rfl ⟨_,rfl,gB T hb1 rfl ?_⟩⟩⟩⟩
 refine⟨p1,b.source,b.sink,rfl,S.zones,_,zco _ _ _,HH.good.z6,hO.1.1,hO.1.2.1,hO.1.2.2,h1',λH2 s2=>?_⟩
 rw[zfH]
 refine⟨_,_,rfl,?_⟩
 rw[zq4]
 generalize hq:min b.left (Vbeman.mostFor S.zones S.lines S.rights b.source b.sink)=am at *
 have ham:Amt am:=by
  have h1:=hO.2.2.2.1
  unfold Amt at h1 ⊢
  constructor <;> omega
 have s12:=s1.trans s2
 have HH2:=HH.same s12
 have hh2:=HH2.obj
 have hb2:=s12 _ _ hb
 refine⟨_,rfl,gH T hh2 rfl ⟨_,rfl,gB T hb2 rfl ⟨_,rfl,gB T hb2 rfl ⟨_,rfl,gB T hb2 rfl ⟨_,rfl,gB T hb2 rfl ⟨_,rfl,zdC (r:=⟨S.nextRight,b.owner,b.source,b.sink,b.option,am⟩) λH3 y ny sH3 aH3=>?_⟩⟩⟩⟩⟩⟩
 have s13:=s12.trans sH3
 have HH3:=HH.same s13
 have hh3:=HH3.obj
 have hb3:=s13 _ _ hb
 have hO1:OneOk S.zones (S.nextRight + 1) ⟨S.nextRight,b.owner,b.source,b.sink,b.option,am⟩:=⟨⟨hO.1.1,hO.1.2.1,hO.1.2.2,ham.1⟩,hO.2.1,Nat.lt_succ_self _,ham.2⟩
 have nyh:=aH3.nh0 HH3
 have nyb:=aH3.ne HH3.bal (.inl ⟨_,rfl⟩)
 have nah:=(hb0.same s13).nh HH3
 have nab:=(hb0.same s13).ne HH3.bal (.inl ⟨_,rfl⟩)
 refine⟨_,rfl,_,_,_,rfl,hh3,rfl,⟨_,rfl,⟨_,rfl,gB T hb3 rfl ?_⟩⟩⟩
 refine⟨h,y,b.price,rfl,dx,ll,lr,lb,bl,S,_,HH3,aH3,rfl,hO1,h30,λH4 lr4 HH4 hlr4 k4=>?_⟩
 have hh4:=HH4.obj
 have hb4:=k4 _ _ hb3 nah nab
 obtain⟨dy,hy3⟩:=id aH3
 have hy4:=k4 _ _ hy3 nyh nyb
 refine⟨_,rfl,gH T hh4 rfl ⟨_,rfl,gB T hb4 rfl ⟨_,rfl,gB T hb4 rfl ⟨_,rfl,⟨_,_,rfl,rfl,?_⟩⟩⟩⟩⟩
 refine⟨lb,b.number,_,rfl,S.bids,Nat.le_trans HH.good.nb.len (by decide),HH4.ba,λH5 p5 s5 hp5 h5=>?_⟩
 have HH5:=HH4.same s5
 have hh5:=HH5.obj
 have hb5:=s5 _ _ hb4
 have hy5:=s5 _ _ hy4
 refine⟨_,rfl,h,_,dx,_,rfl,hh5,T.clH,T.naH _ (by decide),by show 10 < 1000;decide,?_⟩
 have nlb:ll≠p5:=by
  obtain⟨cs,e2,_⟩:=HH4.la
  exact zbI e2 hp5
 have G5:Good (zdh S b am):=by
  have:=HH4.good.left (k:=b.number) (q:=b.left - am) (by have:=hO.2.2.2.1.2;have:=ham.1;omega)
  exact this
 have HH6:HouseAt A (upd H5 h (.ins A.cHouse dx (zbY (zdh S b am) ll lr4 p5 bl))) h dx ll lr4 p5 bl (zdh S b am) :=
  HH5.finB (ll':=ll) (lr':=lr4) (lb':=p5) zbG (by rw[zbL HH5.nbh];exact HH5.bal) zb7 HH5.la HH5.ra h5 HH4.d1 HH4.d2 HH4.d3 (zbI HH4.bal hp5).symm nlb G5
 have hb6:(upd H5 h (.ins A.cHouse dx (zbY (zdh S b am) ll lr4 p5 bl))) a=some (.ins A.cBid db (zri b)):=by rw[zbL nah];exact hb5
 have hy6:(upd H5 h (.ins A.cHouse dx (zbY (zdh S b am) ll lr4 p5 bl))) y=some (.ins A.cRight dy (zgo ⟨S.nextRight,b.owner,b.source,b.sink,b.option,am⟩)):=by rw[zbL nyh];exact hy5
 have k6:∀c o,H c=some o→c≠h→c≠bl→(upd H5 h (.ins A.cHouse dx (zbY (zdh S b am) ll lr4 p5 bl))) c=some o:=λc o e n1 n2=>by rw[zbL n1];exact s5 _ _ (k4 _ _ (s13 _ _ e) n1 n2)
 have hfr:∀c,(upd H5 h (.ins A.cHouse dx (zbY (zdh S b am) ll lr4 p5 bl))) c=none→H c=none:=λc hc=>by
  cases e:H c with
  | none=>rfl
  | some o =>
   have n1:c≠h:=λz=>by rw[z,zbG] at hc;cases hc
   have n2:c≠bl:=λz=>by rw[z,HH6.bal] at hc;cases hc
   rw[k6 c o e n1 n2] at hc;cases hc
 have f5:H p5=none:=by
  cases e:H p5 with
  | none=>rfl
  | some o =>
   have n1:p5≠h:=λz=>by rw[z,hh4] at hp5;cases hp5
   have n2:p5≠bl:=λz=>by rw[z,HH4.bal] at hp5;cases hp5
   rw[k4 _ _ (s13 _ _ e) n1 n2] at hp5;cases hp5
 rw[show zdO "bids" (.ref p5) (zbY { S with rights:=S.rights++[⟨S.nextRight,b.owner,b.source,b.sink,b.option,am⟩],nextRight:=S.nextRight + 1,balances:=Vbeman.pay S.balances b.owner (-(b.price * am)),sales:=S.sales + b.price * am } ll lr4 lb bl)=zbY (zdh S b am) ll lr4 p5 bl from rfl]
 generalize (upd H5 h (.ins A.cHouse dx (zbY (zdh S b am) ll lr4 p5 bl)))=H6 at HH6 hb6 hy6 k6 hfr ⊢
 refine⟨_,rfl,gB T hb6 rfl ⟨_,rfl,gR T hy6 rfl ⟨_,rfl,?_⟩⟩⟩
 refine⟨by show 3≤sizeLine;decide,λp hp=>?_⟩
 have s7:Same H6 (upd H6 p (.lst [V.int b.number,V.int S.nextRight,V.int am])):=Same.upd hp
 exact q _ p lr4 p5 (HH6.same s7) (λc o e n1 n2=>s7 _ _ (k6 c o e n1 n2)) (s13.free hlr4) f5 (hfr p hp) zbG
def zep (A:Ad) (c:Vbeman.Call):Sp:=λvs H Q _=>∃(h:Addr),vs=[.ref h]∧∃dx ll lr lb bl S,HouseAt A H h dx ll lr lb bl S∧zlD A h ll lr lb bl H (Vbeman.onHouse S c).1 (Vbeman.onHouse S c).2 Q
def zfL (g:Vbeman.Grant):List Int:=[(g.bid:Int),(g.right:Int),g.amount]
structure AwAt (A:Ad) (H H':Hp) (h dx ll lr lb bl D lr' lb':Addr) (S S':House) (t:Nat) (row:List Vbeman.Grant):Prop where
 hs:HouseAt A H' h dx ll lr' lb' bl S'
 lst:H' D=some (.lst ((row.flatMap zfL).map V.int))
 fr:H D=none
 nD:D≠ll∧D≠lr'∧D≠lb'∧D≠bl
 kp:zit h ll lr lb bl H ll lr' lb' bl H'
 le:t≤16
 len:row.length=t
 eq:Vbeman.award 16 S=((Vbeman.award (16 - t) S').1,row++(Vbeman.award (16 - t) S').2)
theorem zr5 (row:List Vbeman.Grant):(row.flatMap zfL).length=3 * row.length:=by
 induction row with
 | nil=>rfl
 | cons g r ih=>rw[List.flatMap_cons,List.length_append,ih,List.length_cons];show 3 + _=_;omega
def zpI (σ:List (Option V)):Nat:=match σ[2]? with
 | some (some (V.int k))=>k.toNat
 | _=>0
abbrev zkw:=top 58
abbrev zn7 (P:Program) (w:World) (K:PySem.W.Frag) (mg:Str→Option Value) (base:Heap) (A:Ad):Prop:=FnI P w K mg base "award" 7 ["house"] (zep A .award)
theorem zoO (F:Fun K "award" "award" zkw f fd) (T:Txt K mg A) (zay:ze4 P w K mg base A) (zas:zdS P w K mg base A) (zam:ziv P w K mg base A):FnOk P w K mg base CX0 7 f fd ["house"] (zep A .award):=by
 have sc:FnScope ["house","row","times","bid","ended"] ["house"] (zbK zkw):=fsc
 refine F.ok sc (by rintro _ _ _ _ ⟨h,rfl,_⟩;rfl) λcdv Ar outer s H vs Q E hr h=>?_
 obtain⟨h,rfl,h⟩:=h
 refine⟨_,(zbC (zbP (i:=1) sc.nd rfl (by first | exact Or.inl rfl | exact Or.inr rfl) (zbQ zbD)) (zbC (zbP (i:=2) sc.nd rfl (by first | exact Or.inl rfl | exact Or.inr rfl) zbN) (zbC (zbP (i:=3) sc.nd rfl (by first | exact Or.inl rfl | exact Or.inr rfl) (zbH zay (hr.mono (by decide)) (by rfl) (zbB (pv 0) zbD))) (zbC (zlc PassesOwn.never (PW.pt (zif (zdu (zpV (pv 3))) (zf4 (zbO zeY (pv 2) (zb6 T.i_MOST_TIMES (by rfl)) (zbR _))))) (zbC (zcf (zeF PySem.F.plainAttrs_list PySem.F.slot_list_extend PySem.F.type_list_extend zdx (pv 1) (zbB (zbH zam (hr.mono (by decide)) (by rfl) (zbB (pv 0) (zbB (pv 3) zbD))) zbD))) (zbC (zbP (i:=2) sc.nd rfl (by first | exact Or.inl rfl | exact Or.inr rfl) (zb2 zcK (pv 2) zbN)) (zbF (zbP (i:=3) sc.nd rfl (by first | exact Or.inl rfl | exact Or.inr rfl) (zbH zay (hr.mono (by decide)) (by rfl) (zbB (pv 0) zbD))))))) (zbC (zbP (i:=4) sc.nd rfl (by first | exact Or.inl rfl | exact Or.inr rfl) (ziN (zdu (zdB (pv 3))) zbN zbN)) (zbF (zbJ (zb2 zdw (zbQ (zbB zbN (zbB (pv 4) zbD))) (zbH zas (hr.mono (by decide)) (by rfl) (zbB (pv 1) zbD)))))))))),?_⟩
 obtain⟨dx,ll,lr,lb,bl,S,HH,q⟩:=h
 rw[zoI] at q
 refine⟨by show 0≤sizeLine;decide,λD hD=>?_⟩
 have s0:Same H (upd H D (.lst [])):=Same.upd hD
 have hD0:(upd H D (.lst [])) D=some (.lst []):=zbG
 generalize (upd H D (.lst []))=H0 at s0 hD0 ⊢
 have HH0:=HH.same s0
 have nD0:D≠ll∧D≠lr∧D≠lb∧D≠bl:=by
  obtain⟨_,e1,_⟩:=HH.la
  obtain⟨_,e2,_⟩:=HH.ra
  obtain⟨_,e3,_⟩:=HH.ba
  exact⟨(zbI e1 hD).symm,(zbI e2 hD).symm,(zbI e3 hD).symm,(zbI HH.bal hD).symm⟩
 refine⟨_,rfl,?_⟩
 refine⟨h,rfl,dx,ll,lr,lb,bl,S,HH0,λH1 v s1 hv=>?_⟩
 refine zkX (λσ H'=>∃(t:Nat) (v:V) (o4:Option V) (lr' lb':Addr) (S':House) (row:List Vbeman.Grant),σ=[some (.ref h),some (.ref D),some (.int (t:Nat)),some v,o4]∧AwAt A H H' h dx ll lr lb bl D lr' lb' S S' t row∧zn9 A H' v (zhX S')) (λσ _=>16 - zpI σ) ?_ (λσ H' hW=>?_) (λσ H Q Q' hq h=>?_)
 ·exact⟨0,v,none,lr,lb,S,[],rfl,⟨HH0.same s1,s1 _ _ hD0,hD,nD0,zcd (s0.trans s1),Nat.zero_le _,rfl,by rw[Nat.sub_zero,List.nil_append]⟩,hv⟩
 ·obtain⟨t,v,o4,lr',lb',S',row,rfl,W,hv⟩:=hW
  have fin:(zhX S'=none∨t=16)→Vbeman.award 16 S=(S',row):=λhh=>by
   have e:=W.eq
   rcases hh with hh | hh
   ·rw[zml _ (zii W.hs.good hh),List.append_nil] at e
    exact e
   ·rw[hh,Nat.sub_self,zmj,List.append_nil] at e
    exact e
  have last:(zhX S'=none∨t=16)→zlD A h ll lr lb bl H S' (0::Vbeman.bit (Vbeman.winner S').isNone::Vbeman.row (row.flatMap zfL)) Q:=λhh=>by
   have e:=fin hh
   have e2:(Vbeman.award Vbeman.ROUNDS S)=(S',row):=e
   rw[e2] at q
   exact q
  have hrow:(row.flatMap zfL).length≤48:=by rw[zr5];have:=W.len;have:=W.le;omega
  cases eb:zhX S' with
  | none =>
   rw[eb] at hv
   have hv:v=.non:=hv
   subst hv
   have hl:=last (.inl eb)
   rw[zii W.hs.good eb] at hl
   refine⟨_,rfl,_,rfl,zi7 ?_⟩
   refine⟨_,rfl,?_⟩
   refine⟨_,rfl,zgc ?_⟩
   refine⟨_,rfl,?_⟩
   refine⟨by show 2≤sizeLine;decide,λp hp=>?_⟩
   refine⟨_,rfl,?_⟩
   exact zhs (xs:=[0,1]) hl W.hs W.kp W.lst (by omega) (by decide) rfl rfl hp
  | some b =>
   rw[eb] at hv
   obtain⟨a,rfl,hb⟩:=hv
   obtain⟨hm,h30,hpos,hwin⟩:=zl8 W.hs.good eb
   refine⟨_,rfl,_,rfl,zgc ?_⟩
   refine⟨_,rfl,⟨_,_,rfl,rfl,⟨_,rfl,?_⟩⟩⟩
   refine zb9 (λh1=>?_) (λh1=>?_)
   ·have h1:(t:Int) < 16:=of_decide_eq_true h1
    refine⟨_,rfl,.inl ⟨rfl,_,SqL.of W.lst⟩,?_⟩
    refine⟨_,rfl,⟨_,rfl,?_⟩⟩
    refine⟨h,a,rfl,dx,ll,lr',lb',bl,S',b,W.hs,hb,hm,h30,hpos,λH2 p lr2 lb2 HH2 k2 hl2 hl3 hp2 hp3=>?_⟩
    have nDh:D≠h:=zeb W.lst W.hs.obj (by intro z;cases z)
    have hD2:=k2 _ _ W.lst nDh W.nD.2.2.2
    have nDp:D≠p:=zbI W.lst hp2
    refine⟨D,p,_,_,rfl,rfl,hD2,hp3,?_,?_⟩
    ·rw[List.length_map,List.length_map]
     exact Nat.le_trans (show _≤100 by show _ + 3≤100;omega) (by decide)
    have nD2:D≠ll∧D≠lr2∧D≠lb2∧D≠bl:=⟨W.nD.1,zbI W.lst hl2,zbI W.lst hl3,W.nD.2.2.2⟩
    have HH3:=HH2.beside (o:=.lst ((row.flatMap zfL).map V.int++[(b.number:Int),(S'.nextRight:Int),min b.left (Vbeman.mostFor S'.zones S'.lines S'.rights b.source b.sink)].map V.int)) hD2 nD2
    have hD3:(upd H2 D (.lst ((row.flatMap zfL).map V.int++[(b.number:Int),(S'.nextRight:Int),min b.left (Vbeman.mostFor S'.zones S'.lines S'.rights b.source b.sink)].map V.int))) D=some (.lst ((row.flatMap zfL).map V.int++[(b.number:Int),(S'.nextRight:Int),min b.left (Vbeman.mostFor S'.zones S'.lines S'.rights b.source b.sink)].map V.int)):=zbG
    have K2:zit h ll lr' lb' bl H' ll lr2 lb2 bl H2:=zdP (Same.refl _) k2 (.inl rfl) (.inr hl2) (.inr hl3)
    have K3:zit h ll lr lb bl H ll lr2 lb2 bl (upd H2 D (.lst ((row.flatMap zfL).map V.int++[(b.number:Int),(S'.nextRight:Int),min b.left (Vbeman.mostFor S'.zones S'.lines S'.rights b.source b.sink)].map V.int))):=λc o e=>by
     have e2:=(W.kp.trans K2) c o e
     obtain⟨m,e2⟩:=zcS e2
     exact zcY (by rw[zbL (zbI (zcS e).2 W.fr)];exact e2) m
    generalize (upd H2 D (.lst ((row.flatMap zfL).map V.int++[(b.number:Int),(S'.nextRight:Int),min b.left (Vbeman.mostFor S'.zones S'.lines S'.rights b.source b.sink)].map V.int)))=H3 at HH3 hD3 K3 ⊢
    refine⟨_,rfl,⟨_,_,rfl,rfl,⟨_,rfl,?_⟩⟩⟩
    refine⟨h,rfl,dx,ll,lr2,lb2,bl,_,HH3,λH4 v4 s4 hv4=>?_⟩
    have hen:=zmk (16 - (t + 1)) hwin W.hs.good.nb.nd hm λx hx=>(W.hs.good.nb.all x hx).2.2.2.1.1
    rw[show 16 - (t + 1) + 1=16 - t by omega] at hen
    refine⟨⟨t + 1,v4,_,lr2,lb2,_,row++[⟨b.number,S'.nextRight,min b.left (Vbeman.mostFor S'.zones S'.lines S'.rights b.source b.sink)⟩],rfl,⟨HH3.same s4,?_,W.fr,nD2,K3.trans (zcd s4),by omega,by rw[List.length_append,W.len];rfl,?_⟩,hv4⟩,?_⟩
    ·rw[s4 _ _ hD3,List.flatMap_append,List.map_append]
     rfl
    ·rw[W.eq,hen,List.append_assoc]
     rfl
    ·show 16 - ((t:Int) + 1).toNat < 16 - (t:Int).toNat
     omega
   ·have h1:¬(t:Int) < 16:=λz=>h1 (decide_eq_true z)
    have hl:=last (.inr (by have:=W.le;omega))
    rw[hwin] at hl
    refine⟨_,rfl,?_⟩
    refine⟨_,rfl,zi7 ?_⟩
    refine⟨_,rfl,?_⟩
    refine⟨by show 2≤sizeLine;decide,λp hp=>?_⟩
    refine⟨_,rfl,?_⟩
    exact zhs (xs:=[0,0]) hl W.hs W.kp W.lst (by omega) (by decide) rfl rfl hp
 ·obtain⟨x,e1,b,e2,h⟩:=h
  refine⟨x,e1,b,e2,?_⟩
  cases b with
  | false=>exact hq _ _ h
  | true =>
   obtain⟨y,e3,i,j,e4,e5,c,e6,h⟩:=h
   exact⟨y,e3,i,j,e4,e5,c,e6,hq _ _ h⟩
end
end Z
namespace Z
open PySem PySem.Spec PyProof.Rows L2
open Vbeman (Line Right House Bid)
section
variable {P : Program} {w : World} {K : PySem.W.Frag} {mg : Str → Option Value} {base : Heap} {A : Ad} {f : Addr} {fd : FuncData}
def zc1 (H:Hp) (pa:Addr) (p:List Int):Prop:=H pa=some (.lst (p.map V.int))
def zeP (p:List Int):Prop:=∀x∈p,Prc x
theorem zjB {p:List Int} {z:Nat} (h:z < p.length):(p.map V.int)[z]? = some (.int (Vbeman.priceAt p z)):=by
 unfold Vbeman.priceAt
 rw[List.getElem?_map,List.getElem?_eq_getElem h,List.getD_eq_getElem?_getD,List.getElem?_eq_getElem h]
 rfl
theorem zgN {p:List Int} {z:Nat} (hp:zeP p) (h:z < p.length):Prc (Vbeman.priceAt p z):=by
 unfold Vbeman.priceAt
 rw[List.getD_eq_getElem?_getD,List.getElem?_eq_getElem h]
 exact hp _ (List.getElem_mem h)
def zph:Sp:=λvs H Q _=>∃(pa:Addr) (s t:Nat),vs=[.ref pa,.int s,.int t]∧∃p,zc1 H pa p∧s < p.length∧t < p.length∧Q (.int (Vbeman.priceAt p t - Vbeman.priceAt p s)) H
abbrev zmO:=top 73
abbrev zkh (P:Program) (w:World) (K:PySem.W.Frag) (mg:Str→Option Value) (base:Heap) (A:Ad):Prop:=FnI P w K mg base "rise" 1 ["prices","start","end"] (zph)
theorem zp0 (F:Fun K "rise" "rise" zmO f fd) (T:Txt K mg A):FnOk P w K mg base CX0 1 f fd ["prices","start","end"] (zph):=by
 have sc:FnScope ["prices","start","end"] ["prices","start","end"] (zbK zmO):=fsc
 refine F.ok sc (by rintro _ _ _ _ ⟨pa,s',t,rfl,_⟩;rfl) λcdv Ar outer s H vs Q E hr h=>?_
 obtain⟨pa,s',t,rfl,h⟩:=h
 refine⟨_,(zbF (zbJ (zb2 zcz (zfp zdL (pv 0) (pv 2) (λ_ _=>rfl)) (zfp zdL (pv 0) (pv 1) (λ_ _=>rfl))))),?_⟩
 obtain⟨p,hp,hs,ht,q⟩:=h
 refine⟨_,rfl,⟨_,rfl,?_⟩⟩
 refine⟨pa,_,_,_,rfl,rfl,SqL.of hp,zdi (zjB ht),?_⟩
 refine⟨_,rfl,⟨_,rfl,?_⟩⟩
 refine⟨pa,_,_,_,rfl,rfl,SqL.of hp,zdi (zjB hs),?_⟩
 refine⟨_,_,rfl,rfl,?_⟩
 exact q
def zmE (A:Ad):Sp:=λvs H Q _=>∃(a pa:Addr),vs=[.ref a,.ref pa]∧∃r p,RightAt A H a r∧zc1 H pa p∧r.source < p.length∧r.sink < p.length∧Amt r.amount∧Q (.int (Vbeman.value p r)) H
abbrev zks:=top 74
abbrev zjj (P:Program) (w:World) (K:PySem.W.Frag) (mg:Str→Option Value) (base:Heap) (A:Ad):Prop:=FnI P w K mg base "worth" 2 ["right","prices"] (zmE A)
theorem zoK (F:Fun K "worth" "worth" zks f fd) (T:Txt K mg A) (zaY:zkh P w K mg base A):FnOk P w K mg base CX0 2 f fd ["right","prices"] (zmE A):=by
 have sc:FnScope ["right","prices","paid"] ["right","prices"] (zbK zks):=fsc
 refine F.ok sc (by rintro _ _ _ _ ⟨a,pa,rfl,_⟩;rfl) λcdv Ar outer s H vs Q E hr h=>?_
 obtain⟨a,pa,rfl,h⟩:=h
 refine⟨_,(zbC (zbP (i:=2) sc.nd rfl (by first | exact Or.inl rfl | exact Or.inr rfl) (zb2 zgr (zbE (pv 0) rfl) (zbH zaY (hr.mono (by decide)) (by rfl) (zbB (pv 1) (zbB (zbE (pv 0) rfl) (zbB (zbE (pv 0) rfl) zbD)))))) (zbC (zbU (zbO zcs (zbE (pv 0) rfl) (zb6 T.i_OPTION (by rfl)) (zbR _)) (zbF (zbJ (zbT (zdQ rfl) (by rfl) T.n_max (by decide +kernel) (zbB zbN (zbB (pv 2) zbD))))) zbM) (zbF (zbJ (pv 2))))),?_⟩
 obtain⟨r,p,⟨dx,hR⟩,hp,hs,ht,ham,q⟩:=h
 refine⟨_,rfl,gR T hR rfl ⟨_,rfl,⟨_,rfl,gR T hR rfl ⟨_,rfl,gR T hR rfl ?_⟩⟩⟩⟩
 refine⟨pa,r.source,r.sink,rfl,p,hp,hs,ht,_,_,rfl,rfl,.inl ⟨by have:=ham.1;omega,by have:=ham.2;omega⟩,?_⟩
 have ev:Vbeman.value p r=(if r.option=true then max 0 (r.amount * (Vbeman.priceAt p r.sink - Vbeman.priceAt p r.source)) else r.amount * (Vbeman.priceAt p r.sink - Vbeman.priceAt p r.source)):=by
  unfold Vbeman.value
  rw[Int.mul_comm]
 rw[ev] at q
 obtain⟨m,hm⟩:∃m,r.amount * (Vbeman.priceAt p r.sink - Vbeman.priceAt p r.source)=m:=⟨_,rfl⟩
 rw[hm] at q
 refine⟨_,rfl,gR T hR rfl ⟨rfl,_,rfl,zb9 (λh1=>?_) (λh1=>?_)⟩⟩
 ·have ho:r.option=true:=by
   cases ho:r.option with
   | true=>rfl
   | false=>rw[ho] at h1;cases (of_decide_eq_true h1)
  rw[if_pos ho] at q
  refine⟨_,rfl,⟨_,_,rfl,?_⟩⟩
  have e:(if m > 0 then m else 0)=max 0 m:=by rw[Int.max_def];split <;> split <;> omega
  rw[←e] at q
  subst hm
  exact q
 ·have ho:¬r.option=true:=λz=>h1 (by rw[z];rfl)
  rw[if_neg ho] at q
  refine⟨_,rfl,?_⟩
  subst hm
  exact q
def zjt (A:Ad):Sp:=λvs H Q _=>∃(lr pa:Addr),vs=[.ref lr,.ref pa]∧∃rs p,RightsAt A H lr rs∧zc1 H pa p∧rs.length≤1000∧(∀r∈rs,r.source < p.length∧r.sink < p.length∧Amt r.amount)∧∀H',Same H H'→Q (.int (Vbeman.payouts p rs)) H'
abbrev zg5:=top 75
abbrev zhB (P:Program) (w:World) (K:PySem.W.Frag) (mg:Str→Option Value) (base:Heap) (A:Ad):Prop:=FnI P w K mg base "payouts" 3 ["rights","prices"] (zjt A)
theorem zlZ (F:Fun K "payouts" "payouts" zg5 f fd) (T:Txt K mg A) (zbp:zjj P w K mg base A):FnOk P w K mg base CX0 3 f fd ["rights","prices"] (zjt A):=by
 have sc:FnScope ["rights","prices","right"] ["rights","prices"] (zbK zg5):=fsc
 refine F.ok sc (by rintro _ _ _ _ ⟨lr,pa,rfl,_⟩;rfl) λcdv Ar outer s H vs Q E hr h=>?_
 obtain⟨lr,pa,rfl,h⟩:=h
 refine⟨_,(zbF (zbJ (zbT (zht rfl) (by rfl) T.n_sum (by decide +kernel) (zbB (zfF rfl sc.nd (zcD (pv 0)) (zcr (own:=[("right",2)]) (by rfl)) (λ_ _ _ _ _=>(zbW (i:=2) sc.nd (by rfl) (by first | exact Or.inl rfl | exact Or.inr rfl) (by first | exact Or.inl rfl | exact Or.inr rfl))) (λ_ _ _ _ _=>zcV) (λ_ _ _ _ _=>(zbH zbp (hr.mono (by decide)) (by rfl) (zbB (pv 2) (zbB (pv 1) zbD))))) zbD)))),?_⟩
 obtain⟨rs,p,⟨as,hl,hA⟩,hp,hz,hO,q⟩:=h
 refine⟨_,rfl,?_⟩
 dsimp only
 refine zeN (SqL.of hl) (rs.map λr=>V.int (Vbeman.value p r)) (by rw[List.length_map,List.length_map];exact hA.1.symm) (by rw[List.length_map,hA.1];exact Nat.le_of_lt (zb0 hz)) (λi x y H2 Q' hx hy s2 q'=>?_) (λD H2 hD s2 h2=>?_)
 ·obtain⟨b,r,rfl,hr',hR⟩:=hA.get hx
  rw[List.getElem?_map,hr'] at hy
  cases hy
  have hOr:=hO r (List.mem_of_getElem? hr')
  refine⟨_,rfl,⟨_,rfl,?_⟩⟩
  exact⟨_,_,rfl,r,p,hR.same s2,s2 _ _ hp,hOr.1,hOr.2.1,hOr.2.2,q' _ (Same.refl _)⟩
 ·refine⟨D,rs.map (Vbeman.value p),rfl,SqL.of (by rw[h2,List.map_map];rfl),?_⟩
  rw[zdn]
  exact q _ s2
def zia (A:Ad):Sp:=λvs H Q _=>∃(a pa:Addr),vs=[.ref a,.ref pa]∧∃l p,LineAt A H a l∧zc1 H pa p∧zeP p∧l.a < p.length∧l.b < p.length∧Q (.int (Vbeman.earning p l)) H
abbrev zfj:=top 76
abbrev zhF (P:Program) (w:World) (K:PySem.W.Frag) (mg:Str→Option Value) (base:Heap) (A:Ad):Prop:=FnI P w K mg base "earned_by" 2 ["line","prices"] (zia A)
theorem zjS (F:Fun K "earned_by" "earned_by" zfj f fd) (T:Txt K mg A) (zaY:zkh P w K mg base A):FnOk P w K mg base CX0 2 f fd ["line","prices"] (zia A):=by
 have sc:FnScope ["line","prices","gain"] ["line","prices"] (zbK zfj):=fsc
 refine F.ok sc (by rintro _ _ _ _ ⟨a,pa,rfl,_⟩;rfl) λcdv Ar outer s H vs Q E hr h=>?_
 obtain⟨a,pa,rfl,h⟩:=h
 refine⟨_,(zbC (zbP (i:=2) sc.nd rfl (by first | exact Or.inl rfl | exact Or.inr rfl) (zbH zaY (hr.mono (by decide)) (by rfl) (zbB (pv 1) (zbB (zbE (pv 0) rfl) (zbB (zbE (pv 0) rfl) zbD))))) (zbF (zbJ (zb2 zcK (zb2 zgr (zbT (zdQ rfl) (by rfl) T.n_max (by decide +kernel) (zbB zbN (zbB (pv 2) zbD))) (zbE (pv 0) rfl)) (zb2 zgr (zbT (zdQ rfl) (by rfl) T.n_max (by decide +kernel) (zbB zbN (zbB (zb2 zcz zbN (pv 2)) zbD))) (zbE (pv 0) rfl)))))),?_⟩
 obtain⟨l,p,⟨dx,hL⟩,hp,hpr,ha,hb,q⟩:=h
 have pa1:=zgN hpr ha
 have pb1:=zgN hpr hb
 refine⟨_,rfl,⟨_,rfl,gL T hL rfl ⟨_,rfl,gL T hL rfl ?_⟩⟩⟩
 refine⟨pa,l.a,l.b,rfl,p,hp,ha,hb,?_⟩
 have ev:Vbeman.earning p l=(if Vbeman.priceAt p l.b - Vbeman.priceAt p l.a > 0 then Vbeman.priceAt p l.b - Vbeman.priceAt p l.a else 0) * l.forth + (if 0 - (Vbeman.priceAt p l.b - Vbeman.priceAt p l.a) > 0 then 0 - (Vbeman.priceAt p l.b - Vbeman.priceAt p l.a) else 0) * l.back:=by
  rw[zno,zno]
  unfold Vbeman.earning
  congr 3
  omega
 rw[ev] at q
 unfold Prc at pa1 pb1
 have hg:-2000000≤Vbeman.priceAt p l.b - Vbeman.priceAt p l.a∧Vbeman.priceAt p l.b - Vbeman.priceAt p l.a≤2000000:=by omega
 generalize Vbeman.priceAt p l.b - Vbeman.priceAt p l.a=gn at q hg ⊢
 refine⟨_,rfl,⟨_,_,rfl,⟨_,rfl,gL T hL rfl ?_⟩⟩⟩
 refine⟨_,_,rfl,rfl,.inl ⟨by split <;> omega,by split <;> omega⟩,?_⟩
 refine⟨_,rfl,⟨_,_,rfl,rfl,⟨_,_,rfl,⟨_,rfl,gL T hL rfl ?_⟩⟩⟩⟩
 refine⟨_,_,rfl,rfl,.inl ⟨by split <;> omega,by split <;> omega⟩,_,_,rfl,rfl,q⟩
def zh9 (A:Ad):Sp:=λvs H Q _=>∃(ll pa:Addr),vs=[.ref ll,.ref pa]∧∃ls p,LinesAt A H ll ls∧zc1 H pa p∧zeP p∧ls.length≤1000∧(∀l∈ls,l.a < p.length∧l.b < p.length)∧∀H',Same H H'→Q (.int (Vbeman.earnings p ls)) H'
abbrev zf0:=top 77
abbrev ziu (P:Program) (w:World) (K:PySem.W.Frag) (mg:Str→Option Value) (base:Heap) (A:Ad):Prop:=FnI P w K mg base "earnings" 3 ["lines","prices"] (zh9 A)
theorem zkE (F:Fun K "earnings" "earnings" zf0 f fd) (T:Txt K mg A) (zau:zhF P w K mg base A):FnOk P w K mg base CX0 3 f fd ["lines","prices"] (zh9 A):=by
 have sc:FnScope ["lines","prices","line"] ["lines","prices"] (zbK zf0):=fsc
 refine F.ok sc (by rintro _ _ _ _ ⟨ll,pa,rfl,_⟩;rfl) λcdv Ar outer s H vs Q E hr h=>?_
 obtain⟨ll,pa,rfl,h⟩:=h
 refine⟨_,(zbF (zbJ (zbT (zht rfl) (by rfl) T.n_sum (by decide +kernel) (zbB (zfF rfl sc.nd (zcD (pv 0)) (zcr (own:=[("line",2)]) (by rfl)) (λ_ _ _ _ _=>(zbW (i:=2) sc.nd (by rfl) (by first | exact Or.inl rfl | exact Or.inr rfl) (by first | exact Or.inl rfl | exact Or.inr rfl))) (λ_ _ _ _ _=>zcV) (λ_ _ _ _ _=>(zbH zau (hr.mono (by decide)) (by rfl) (zbB (pv 2) (zbB (pv 1) zbD))))) zbD)))),?_⟩
 obtain⟨ls,p,⟨as,hl,hA⟩,hp,hpr,hz,hO,q⟩:=h
 refine⟨_,rfl,?_⟩
 dsimp only
 refine zeN (SqL.of hl) (ls.map λr=>V.int (Vbeman.earning p r)) (by rw[List.length_map,List.length_map];exact hA.1.symm) (by rw[List.length_map,hA.1];exact Nat.le_of_lt (zb0 hz)) (λi x y H2 Q' hx hy s2 q'=>?_) (λD H2 hD s2 h2=>?_)
 ·obtain⟨b,r,rfl,hr',hR⟩:=hA.get hx
  rw[List.getElem?_map,hr'] at hy
  cases hy
  have hOr:=hO r (List.mem_of_getElem? hr')
  refine⟨_,rfl,⟨_,rfl,?_⟩⟩
  exact⟨_,_,rfl,r,p,hR.same s2,s2 _ _ hp,hpr,hOr.1,hOr.2,q' _ (Same.refl _)⟩
 ·refine⟨D,ls.map (Vbeman.earning p),rfl,SqL.of (by rw[h2,List.map_map];rfl),?_⟩
  rw[zdn]
  exact q _ s2
def zpn (A:Ad):Sp:=λvs H Q _=>∃(a:Addr) (f:Int) (pa:Addr),vs=[.ref a,.int f,.ref pa]∧∃l p,LineAt A H a l∧zc1 H pa p∧l.a < p.length∧l.b < p.length∧Q (.bl (Vbeman.fits p l f)) H
theorem zqf (p:List Int) (l:Line) (f:Int):Vbeman.fits p l f=decide (-l.back≤f∧f≤l.forth∧(f < l.forth→Vbeman.priceAt p l.b≤Vbeman.priceAt p l.a)∧(-l.back < f→Vbeman.priceAt p l.a≤Vbeman.priceAt p l.b)):=by
 unfold Vbeman.fits
 rw[Bool.eq_iff_iff]
 simp only [Bool.and_eq_true,Bool.or_eq_true,Bool.not_eq_true',decide_eq_true_eq,decide_eq_false_iff_not]
 constructor
 ·rintro ⟨h1,h2,h3,h4⟩
  refine⟨h1,h2,λz=>?_,λz=>?_⟩ <;> omega
 ·rintro ⟨h1,h2,h3,h4⟩
  refine⟨h1,h2,?_,?_⟩
  ·by_cases z:f < l.forth
   ·exact .inr (h3 z)
   ·exact .inl z
  ·by_cases z:-l.back < f
   ·exact .inr (h4 z)
   ·exact .inl z
abbrev zmQ:=top 78
abbrev zpF (P:Program) (w:World) (K:PySem.W.Frag) (mg:Str→Option Value) (base:Heap) (A:Ad):Prop:=FnI P w K mg base "fits" 2 ["line","flow","prices"] (zpn A)
theorem zp2 (F:Fun K "fits" "fits" zmQ f fd) (T:Txt K mg A) (zaY:zkh P w K mg base A):FnOk P w K mg base CX0 2 f fd ["line","flow","prices"] (zpn A):=by
 have sc:FnScope ["line","flow","prices","gain"] ["line","flow","prices"] (zbK zmQ):=fsc
 refine F.ok sc (by rintro _ _ _ _ ⟨a,f,pa,rfl,_⟩;rfl) λcdv Ar outer s H vs Q E hr h=>?_
 obtain⟨a,f,pa,rfl,h⟩:=h
 refine⟨_,(zbC (zbP (i:=3) sc.nd rfl (by first | exact Or.inl rfl | exact Or.inr rfl) (zbH zaY (hr.mono (by decide)) (by rfl) (zbB (pv 2) (zbB (zbE (pv 0) rfl) (zbB (zbE (pv 0) rfl) zbD))))) (zbC (zbU (PW.pt (zfD (zbO zhe (pv 1) (zbE (pv 0) rfl) (zbR _)) (zeh (zbO zeY (pv 1) (zb2 zcz zbN (zbE (pv 0) rfl)) (zbR _))))) (zbF (zbJ zou)) zbM) (zbC (zbU (PW.pt (zif (zbO zeY (pv 1) (zbE (pv 0) rfl) (zbR _)) (zf4 (zbO zhe (pv 3) zbN (zbR _))))) (zbF (zbJ zou)) zbM) (zbF (zbJ (zpx (zgq (zcN zhe (pv 1) (zb2 zcz zbN (zbE (pv 0) rfl)) (zbR _)) (zig (zcN zeY (pv 3) zbN (zbR _)))))))))),?_⟩
 obtain⟨l,p,⟨dx,hL⟩,hp,ha,hb,q⟩:=h
 rw[zqf] at q
 refine⟨_,rfl,⟨_,rfl,gL T hL rfl ⟨_,rfl,gL T hL rfl ?_⟩⟩⟩
 refine⟨pa,l.a,l.b,rfl,p,hp,ha,hb,?_⟩
 generalize Vbeman.priceAt p l.a=x at *
 generalize Vbeman.priceAt p l.b=y at *
 have no:¬(-l.back≤f∧f≤l.forth∧(f < l.forth→y≤x)∧(-l.back < f→x≤y))→Q (.bl false) H:=λz=>by rw[decide_eq_false z] at q;exact q
 refine⟨_,rfl,⟨_,rfl,gL T hL rfl ⟨_,_,rfl,rfl,⟨_,rfl,zb9 (λh1=>?_) (λh1=>?_)⟩⟩⟩⟩
 ·have h1:l.forth < f:=of_decide_eq_true h1
  exact no (by omega)
 have h1:¬l.forth < f:=λz=>h1 (decide_eq_true z)
 refine⟨_,rfl,⟨_,rfl,gL T hL rfl ⟨_,_,rfl,rfl,⟨_,_,rfl,rfl,⟨_,rfl,zb9 (λh2=>?_) (λh2=>?_)⟩⟩⟩⟩⟩
 ·have h2:f < 0 - l.back:=of_decide_eq_true h2
  exact no (by omega)
 have h2:¬f < 0 - l.back:=λz=>h2 (decide_eq_true z)
 by_cases h3:f < l.forth∧0 < y - x
 ·refine⟨_,rfl,⟨_,rfl,gL T hL rfl ⟨_,_,rfl,rfl,⟨_,rfl,?_⟩⟩⟩⟩
  refine zb9 (λ_=>?_) (λz=>absurd (decide_eq_true h3.1) z)
  refine⟨_,rfl,⟨_,_,rfl,rfl,⟨_,rfl,?_⟩⟩⟩
  refine zb9 (λ_=>?_) (λz=>absurd (decide_eq_true h3.2) z)
  exact no (by omega)
 refine (λgo=>?main:?T→_) ?go
 case main =>
  refine⟨_,rfl,⟨_,rfl,gL T hL rfl ⟨_,_,rfl,rfl,⟨_,rfl,zb9 (λh4=>?_) (λh4=>?_)⟩⟩⟩⟩
  ·refine⟨_,rfl,⟨_,_,rfl,rfl,⟨_,rfl,zb9 (λh5=>?_) (λh5=>?_)⟩⟩⟩
   ·clear go
    exact absurd ⟨of_decide_eq_true h4,of_decide_eq_true h5⟩ h3
   ·exact go
  ·refine zi7 ?_
   exact go
 case go =>
  refine⟨_,rfl,⟨_,rfl,gL T hL rfl ⟨_,_,rfl,rfl,⟨_,_,rfl,rfl,⟨_,rfl,zb9 (λh6=>?_) (λh6=>?_)⟩⟩⟩⟩⟩
  ·have h6:0 - l.back < f:=of_decide_eq_true h6
   refine⟨_,rfl,⟨_,_,rfl,rfl,?_⟩⟩
   have e:(!decide (y - x < 0))=decide (-l.back≤f∧f≤l.forth∧(f < l.forth→y≤x)∧(-l.back < f→x≤y)):=by
    rw[Bool.eq_iff_iff,Bool.not_eq_true',decide_eq_false_iff_not,decide_eq_true_iff]
    omega
   rw[←e] at q
   exact⟨_,rfl,q⟩
  ·have h6:¬0 - l.back < f:=λz=>h6 (decide_eq_true z)
   have e:decide (-l.back≤f∧f≤l.forth∧(f < l.forth→y≤x)∧(-l.back < f→x≤y))=true:=by
    rw[decide_eq_true_iff]
    omega
   rw[e] at q
   exact⟨_,rfl,q⟩
def zh8 (A:Ad):Sp:=λvs H Q _=>∃(ll fa pa:Addr),vs=[.ref ll,.ref fa,.ref pa]∧∃ls f p,LinesAt A H ll ls∧H fa=some (.lst (f.map V.int))∧zc1 H pa p∧f.length=ls.length∧ls.length≤1000∧(∀l∈ls,l.a < p.length∧l.b < p.length)∧∀H',Same H H'→Q (.bl (Vbeman.fitsAll p ls f)) H'
abbrev zfi:=top 79
abbrev zhE (P:Program) (w:World) (K:PySem.W.Frag) (mg:Str→Option Value) (base:Heap) (A:Ad):Prop:=FnI P w K mg base "flows_fit" 3 ["lines","flows","prices"] (zh8 A)
theorem zjR (F:Fun K "flows_fit" "flows_fit" zfi f fd) (T:Txt K mg A) (zaz:zpF P w K mg base A):FnOk P w K mg base CX0 3 f fd ["lines","flows","prices"] (zh8 A):=by
 have sc:FnScope ["lines","flows","prices","line","flow"] ["lines","flows","prices"] (zbK zfi):=fsc
 refine F.ok sc (by rintro _ _ _ _ ⟨ll,fa,pa,rfl,_⟩;rfl) λcdv Ar outer s H vs Q E hr h=>?_
 obtain⟨ll,fa,pa,rfl,h⟩:=h
 refine⟨_,(zbF (zbJ (zbT (zly rfl) (by rfl) T.n_all (by decide +kernel) (zbB (zfF rfl sc.nd (zps (by rfl) T.n_zip (zbB (pv 0) (zbB (pv 1) zbD))) (zcr (own:=[("line",3),("flow",4)]) (by rfl)) (λ_ _ _ _ _=>(zeE (Kf:=K) (n:=2) (by rfl) (by rfl) (zck (zbW (i:=3) sc.nd (by rfl) (by first | exact Or.inl rfl | exact Or.inr rfl) (by first | exact Or.inl rfl | exact Or.inr rfl)) (zck (zbW (i:=4) sc.nd (by rfl) (by first | exact Or.inl rfl | exact Or.inr rfl) (by first | exact Or.inl rfl | exact Or.inr rfl)) zd6)))) (λ_ _ _ _ _=>zcV) (λ_ _ _ _ _=>(zbH zaz (hr.mono (by decide)) (by rfl) (zbB (pv 3) (zbB (pv 4) (zbB (pv 2) zbD)))))) zbD)))),?_⟩
 obtain⟨ls,f,p,⟨as,hl,hA⟩,hf,hp,hfl,hz,hO,q⟩:=h
 refine⟨_,rfl,⟨_,rfl,?_⟩⟩
 dsimp only
 refine zlz (SqL.of hl) (SqL.of hf) (by rw[List.length_map,List.length_map,hfl,hA.1]) (by rw[List.length_map,hA.1];exact Nat.le_of_lt (zb0 hz)) (by decide) ((ls.zip f).map λx=>V.bl (Vbeman.fits p x.1 x.2)) (by rw[List.length_map,List.length_zip,List.length_map,hA.1,hfl,Nat.min_self]) (λi x y z H2 Q' hx hy hz' s2 q'=>?_) (λD H2 hD s2 h2=>?_)
 ·obtain⟨b,r,rfl,hr',hR⟩:=hA.get hx
  rw[List.getElem?_map] at hy
  cases ef:f[i]? with
  | none=>rw[ef] at hy;cases hy
  | some v =>
   rw[ef] at hy
   cases hy
   rw[List.getElem?_map,zix hr' ef] at hz'
   cases hz'
   have hOr:=hO r (List.mem_of_getElem? hr')
   refine⟨_,rfl,⟨_,rfl,⟨_,rfl,?_⟩⟩⟩
   exact⟨_,_,_,rfl,r,p,hR.same s2,s2 _ _ hp,hOr.1,hOr.2,q' _ (Same.refl _)⟩
 ·refine⟨D,(ls.zip f).map (λx=>Vbeman.fits p x.1 x.2),rfl,SqL.of (by rw[h2,List.map_map];rfl),?_⟩
  have e:((ls.zip f).map (λx=>Vbeman.fits p x.1 x.2)).all id=Vbeman.fitsAll p ls f:=by rw[List.all_map,zlu p ls f hfl];rfl
  rw[e]
  exact q _ s2
def zpi (A:Ad):Sp:=λvs H Q _=>∃(ll fa pa:Addr),vs=[.ref ll,.ref fa,.ref pa]∧∃ls f p,LinesAt A H ll ls∧H fa=some (.lst (f.map V.int))∧zc1 H pa p∧zeP p∧f.length=ls.length∧ls.length≤1000∧(∀l∈ls,l.a < p.length∧l.b < p.length)∧∀H',Same H H'→Q (.int (Vbeman.rent p ls f)) H'
theorem zgQ (p:List Int):∀(ls:List Line) (f:List Int),List.zipWith (λ(l:Line) (f:Int)=>(Vbeman.priceAt p l.b - Vbeman.priceAt p l.a) * f) ls f=(ls.zip f).map λx=>x.2 * (Vbeman.priceAt p x.1.b - Vbeman.priceAt p x.1.a)
 | [],f=>rfl
 | _::_,[]=>rfl
 | l::ls,f::fs=>by
  rw[List.zipWith_cons_cons,List.zip_cons_cons,List.map_cons,zgQ p ls fs,Int.mul_comm]
abbrev zmP:=top 80
abbrev zpE (P:Program) (w:World) (K:PySem.W.Frag) (mg:Str→Option Value) (base:Heap) (A:Ad):Prop:=FnI P w K mg base "rent" 2 ["lines","flows","prices"] (zpi A)
theorem zp1 (F:Fun K "rent" "rent" zmP f fd) (T:Txt K mg A) (zaY:zkh P w K mg base A):FnOk P w K mg base CX0 2 f fd ["lines","flows","prices"] (zpi A):=by
 have sc:FnScope ["lines","flows","prices","line","flow"] ["lines","flows","prices"] (zbK zmP):=fsc
 refine F.ok sc (by rintro _ _ _ _ ⟨ll,fa,pa,rfl,_⟩;rfl) λcdv Ar outer s H vs Q E hr h=>?_
 obtain⟨ll,fa,pa,rfl,h⟩:=h
 refine⟨_,(zbF (zbJ (zbT (zht rfl) (by rfl) T.n_sum (by decide +kernel) (zbB (zfF rfl sc.nd (zps (by rfl) T.n_zip (zbB (pv 0) (zbB (pv 1) zbD))) (zcr (own:=[("line",3),("flow",4)]) (by rfl)) (λ_ _ _ _ _=>(zeE (Kf:=K) (n:=2) (by rfl) (by rfl) (zck (zbW (i:=3) sc.nd (by rfl) (by first | exact Or.inl rfl | exact Or.inr rfl) (by first | exact Or.inl rfl | exact Or.inr rfl)) (zck (zbW (i:=4) sc.nd (by rfl) (by first | exact Or.inl rfl | exact Or.inr rfl) (by first | exact Or.inl rfl | exact Or.inr rfl)) zd6)))) (λ_ _ _ _ _=>zcV) (λ_ _ _ _ _=>(zb2 zgr (pv 4) (zbH zaY (hr.mono (by decide)) (by rfl) (zbB (pv 2) (zbB (zkB (Kf:=K) (by rfl) (pv 3) (by rfl)) (zbB (zkB (Kf:=K) (by rfl) (pv 3) (by rfl)) zbD))))))) zbD)))),?_⟩
 obtain⟨ls,f,p,⟨as,hl,hA⟩,hf,hp,hpr,hfl,hz,hO,q⟩:=h
 refine⟨_,rfl,⟨_,rfl,?_⟩⟩
 dsimp only
 refine zlz (SqL.of hl) (SqL.of hf) (by rw[List.length_map,List.length_map,hfl,hA.1]) (by rw[List.length_map,hA.1];exact Nat.le_of_lt (zb0 hz)) (by decide) ((ls.zip f).map λx=>V.int (x.2 * (Vbeman.priceAt p x.1.b - Vbeman.priceAt p x.1.a))) (by rw[List.length_map,List.length_zip,List.length_map,hA.1,hfl,Nat.min_self]) (λi x y z H2 Q' hx hy hz' s2 q'=>?_) (λD H2 hD s2 h2=>?_)
 ·obtain⟨b,r,rfl,hr',hR⟩:=hA.get hx
  rw[List.getElem?_map] at hy
  cases ef:f[i]? with
  | none=>rw[ef] at hy;cases hy
  | some v =>
   rw[ef] at hy
   cases hy
   rw[List.getElem?_map,zix hr' ef] at hz'
   cases hz'
   have hOr:=hO r (List.mem_of_getElem? hr')
   obtain⟨dr,hL⟩:=hR.same s2
   have pa1:=zgN hpr hOr.1
   have pb1:=zgN hpr hOr.2
   unfold Prc at pa1 pb1
   refine⟨_,rfl,⟨_,rfl,⟨_,rfl,gL T hL rfl ⟨_,rfl,gL T hL rfl ?_⟩⟩⟩⟩
   exact⟨pa,r.a,r.b,rfl,p,s2 _ _ hp,hOr.1,hOr.2,_,_,rfl,rfl,.inr ⟨by omega,by omega⟩,q' _ (Same.refl _)⟩
 ·refine⟨D,(ls.zip f).map (λx=>x.2 * (Vbeman.priceAt p x.1.b - Vbeman.priceAt p x.1.a)),rfl,SqL.of (by rw[h2,List.map_map];rfl),?_⟩
  rw[zdn,←zgQ]
  exact q _ s2
def zkZ (A:Ad):Sp:=λvs H Q _=>∃(h pa fa:Addr),vs=[.ref h,.ref pa,.ref fa]∧∃dx ll lr lb bl S p f,HouseAt A H h dx ll lr lb bl S∧pa≠bl∧zc1 H pa p∧zeP p∧H fa=some (.lst (f.map V.int))∧zlD A h ll lr lb bl H (Vbeman.onHouse S (.settle p f)).1 (Vbeman.onHouse S (.settle p f)).2 Q
theorem Good.inR {S:House} (g:Good S) {p:List Int} (h:p.length=S.zones):∀r∈S.rights,r.source < p.length∧r.sink < p.length∧Amt r.amount:=λr hr=>by
 have:=g.ro r hr
 exact⟨by rw[h];exact this.1.1,by rw[h];exact this.1.2.1,this.1.2.2.2,this.2.2.2⟩
theorem Good.inL {S:House} (g:Good S) {p:List Int} (h:p.length=S.zones):∀l∈S.lines,l.a < p.length∧l.b < p.length:=λl hl=>by
 rw[h];exact g.lo l hl
theorem ziO (p:List Int):∀(rs:List Right) (bs:List Int),(rs.foldl (λl r=>Vbeman.pay l r.owner (Vbeman.value p r)) bs).length=bs.length
 | [],bs=>rfl
 | r::rs,bs=>by rw[List.foldl_cons,ziO p rs,zd7]
theorem Good.money {S:House} (g:Good S) {bs:List Int} (hb:bs.length=8) (t c:Int):Good { S with balances:=bs,till:=t,cash:=c }:=⟨g.z2,g.z6,g.ll,g.rl,g.lo,g.ro,g.nd,hb,g.nb⟩
abbrev ziG:=top 82
abbrev zlE (P:Program) (w:World) (K:PySem.W.Frag) (mg:Str→Option Value) (base:Heap) (A:Ad):Prop:=FnI P w K mg base "settle" 4 ["house","prices","flows"] (zkZ A)
theorem zne (F:Fun K "settle" "settle" ziG f fd) (T:Txt K mg A) (zaX:zpE P w K mg base A) (zaR:zhB P w K mg base A) (zaA:zhE P w K mg base A) (zbz:zdA P w K mg base A) (zbp:zjj P w K mg base A):FnOk P w K mg base CX0 4 f fd ["house","prices","flows"] (zkZ A):=by
 have sc:FnScope ["house","prices","flows","taken","paid","right"] ["house","prices","flows"] (zbK ziG):=fsc
 refine F.ok sc (by rintro _ _ _ _ ⟨h,pa,fa,rfl,_⟩;rfl) λcdv Ar outer s H vs Q E hr h=>?_
 obtain⟨h,pa,fa,rfl,h⟩:=h
 refine⟨_,(zbC (zbU (PW.pt (zfD (zbO zeG (zbT zcc (by rfl) T.n_len (by decide +kernel) (zbB (pv 1) zbD)) (zbE (pv 0) rfl) (zbR _)) (zeh (zbO zeG (zbT zcc (by rfl) T.n_len (by decide +kernel) (zbB (pv 2) zbD)) (zbT zcc (by rfl) T.n_len (by decide +kernel) (zbB (zbE (pv 0) rfl) zbD)) (zbR _))))) (zbF (zbJ (zbQ (zbB (zb6 T.i_NOT_FITTING (by rfl)) zbD)))) zbM) (zbC (zbU (zcW (zcy (zbH zaA (hr.mono (by decide)) (by rfl) (zbB (zbE (pv 0) rfl) (zbB (pv 2) (zbB (pv 1) zbD)))))) (zbF (zbJ (zbQ (zbB (zb6 T.i_NOT_FITTING_FLOWS (by rfl)) zbD)))) zbM) (zbC (zbP (i:=3) sc.nd rfl (by first | exact Or.inl rfl | exact Or.inr rfl) (zbH zaX (hr.mono (by decide)) (by rfl) (zbB (zbE (pv 0) rfl) (zbB (pv 2) (zbB (pv 1) zbD))))) (zbC (zbP (i:=4) sc.nd rfl (by first | exact Or.inl rfl | exact Or.inr rfl) (zbH zaR (hr.mono (by decide)) (by rfl) (zbB (zbE (pv 0) rfl) (zbB (pv 1) zbD)))) (zbC (zdv PassesOwn.never rfl (zcD (zbE (pv 0) rfl)) (zbW (i:=5) sc.nd (by rfl) (by first | exact Or.inl rfl | exact Or.inr rfl) (by first | exact Or.inl rfl | exact Or.inr rfl)) (zbF (zcf (zch zbz (hr.mono (by decide)) (pv 0) (zbB (zbE (pv 5) rfl) (zbB (zbH zbp (hr.mono (by decide)) (by rfl) (zbB (pv 5) (zbB (pv 1) zbD))) zbD)))))) (zbC (zbX (pv 0) (zb2 zcz (zb2 zcK (zbE (pv 0) rfl) (pv 3)) (pv 4)) rfl) (zbC (zbX (pv 0) (zb2 zcz (zbE (pv 0) rfl) (pv 3)) rfl) (zbF (zbJ (zbQ (zbB zbN (zbB (pv 3) (zbB (pv 4) zbD))))))))))))),?_⟩
 obtain⟨dx,ll,lr,lb,bl,S,p,f,HH,npb,hp,hpr,hf,q⟩:=h
 have hh:=HH.obj
 obtain⟨ls,hl,hA⟩:=HH.la
 have eo:=zm8 S p f
 by_cases h0:p.length≠S.zones∨f.length≠S.lines.length
 ·rw[if_pos h0] at eo
  have no:=zbZ q HH (Same.refl _) (ans:=[-4]) eo (xs:=[V.int (-4)]) rfl
  refine⟨_,rfl,?_⟩
  refine⟨_,_,rfl,.inl ⟨_,SqL.of hp,rfl⟩,?_⟩
  refine⟨_,rfl,gH T hh rfl ⟨rfl,_,rfl,?_⟩⟩
  rw[List.length_map]
  refine zb9 (λh1=>?_) (λh1=>?_)
  ·exact no
  have h1:p.length=S.zones:=zll h1
  refine⟨_,rfl,?_⟩
  refine⟨_,_,rfl,.inl ⟨_,SqL.of hf,rfl⟩,?_⟩
  refine⟨_,rfl,gH T hh rfl ?_⟩
  refine⟨_,_,rfl,.inl ⟨_,SqL.of hl,rfl⟩,rfl,_,rfl,?_⟩
  rw[List.length_map,List.length_map,hA.1]
  refine zb9 (λh2=>?_) (λh2=>?_)
  ·exact no
  ·have h2:f.length=S.lines.length:=zll h2
   omega
 ·have h0':p.length=S.zones∧f.length=S.lines.length:=by omega
  rw[if_neg h0] at eo
  refine⟨_,rfl,?_⟩
  refine⟨_,_,rfl,.inl ⟨_,SqL.of hp,rfl⟩,?_⟩
  refine⟨_,rfl,gH T hh rfl ⟨rfl,_,rfl,?_⟩⟩
  rw[List.length_map]
  refine zb9 (λh1=>absurd h0'.1 (neI h1)) (λ_=>?_)
  refine⟨_,rfl,?_⟩
  refine⟨_,_,rfl,.inl ⟨_,SqL.of hf,rfl⟩,?_⟩
  refine⟨_,rfl,gH T hh rfl ?_⟩
  refine⟨_,_,rfl,.inl ⟨_,SqL.of hl,rfl⟩,rfl,_,rfl,?_⟩
  rw[List.length_map,List.length_map,hA.1]
  refine zb9 (λh1=>absurd h0'.2 (neI h1)) (λ_=>?_)
  have hgl:=HH.good.ll
  have hgr:=HH.good.rl
  refine⟨_,rfl,gH T hh rfl ⟨_,rfl,⟨_,rfl,?_⟩⟩⟩
  refine⟨ll,fa,pa,rfl,S.lines,f,p,HH.la,hf,hp,h0'.2,by omega,HH.good.inL h0'.1,λH1 s1=>⟨_,rfl,?_⟩⟩
  refine zb9 (λh2=>?_) (λh2=>?_)
  ·exact zbZ q HH s1 (ans:=[-8]) (by rw[eo,if_pos (by simpa using h2)]) rfl
  rw[if_neg (by simpa using h2)] at eo
  rw[eo] at q
  have HH1:=HH.same s1
  have hh1:=HH1.obj
  refine⟨_,rfl,gH T hh1 rfl ⟨_,rfl,⟨_,rfl,?_⟩⟩⟩
  refine⟨ll,fa,pa,rfl,S.lines,f,p,HH1.la,s1 _ _ hf,s1 _ _ hp,hpr,h0'.2,by omega,HH.good.inL h0'.1,λH2 s2=>?_⟩
  have HH2:=HH1.same s2
  have hh2:=HH2.obj
  have s12:=s1.trans s2
  refine⟨_,rfl,gH T hh2 rfl ⟨_,rfl,?_⟩⟩
  refine⟨lr,pa,rfl,S.rights,p,HH2.ra,s12 _ _ hp,by omega,HH.good.inR h0'.1,λH3 s3=>?_⟩
  have s13:=s12.trans s3
  have HH3:=HH.same s13
  have hh3:=HH3.obj
  obtain⟨as,hr3,hA3⟩:=HH3.ra
  refine⟨_,rfl,gH T hh3 rfl ?_⟩
  refine⟨lr,rfl,⟨_,SqL.of hr3⟩,?_⟩
  refine zcR (K:=K) (xs:=as.map V.ref) (λi σ H'=>(∃o,σ=[some (.ref h),some (.ref pa),some (.ref fa),some (.int (Vbeman.rent p S.lines f)),some (.int (Vbeman.payouts p S.rights)),o])∧HouseAt A H' h dx ll lr lb bl { S with balances:=(S.rights.take i).foldl (λl r=>Vbeman.pay l r.owner (Vbeman.value p r)) S.balances }∧∀b o,H3 b=some o→b≠bl→H' b=some o) ⟨⟨none,rfl⟩,HH3,λb o e _=>e⟩ (λi σ H' _ h=>SqL.of (h.2.2 _ _ hr3 HH.d3)) (λi x σ H' hx h=>?_) (λσ H' h=>?_)
  ·obtain⟨⟨o,rfl⟩,HH',k'⟩:=h
   obtain⟨a,r,rfl,hr',hR0⟩:=hA3.get hx
   have nab:=hR0.ne HH3.bal (.inl ⟨_,rfl⟩)
   obtain⟨dr,hR3⟩:=hR0
   have hR:=k' _ _ hR3 nab
   have hOr:=HH.good.inR h0'.1 r (List.mem_of_getElem? hr')
   have hh':=HH'.obj
   have hbl:((S.rights.take i).foldl (λl r=>Vbeman.pay l r.owner (Vbeman.value p r)) S.balances).length=8:=by rw[ziO];exact HH.good.bl
   refine⟨_,rfl,_,_,_,rfl,hh',rfl,⟨_,rfl,gR T hR rfl ⟨_,rfl,⟨_,rfl,?_⟩⟩⟩⟩
   refine⟨a,pa,rfl,r,p,⟨dr,hR⟩,k' _ _ (s13 _ _ hp) npb,hOr.1,hOr.2.1,hOr.2.2,?_⟩
   refine⟨h,r.owner,_,rfl,(HH.good.ro r (List.mem_of_getElem? hr')).2.1,dx,_,ll,lr,lb,bl,_,hh',hbl,HH'.bal,?_⟩
   have et:(S.rights.take (i + 1)).foldl (λl r=>Vbeman.pay l r.owner (Vbeman.value p r)) S.balances=Vbeman.pay ((S.rights.take i).foldl (λl r=>Vbeman.pay l r.owner (Vbeman.value p r)) S.balances) r.owner (Vbeman.value p r):=by
    rw[L2.zb4 hr',List.foldl_append];rfl
   have HP:=HH'.paid (bs:=Vbeman.pay ((S.rights.take i).foldl (λl r=>Vbeman.pay l r.owner (Vbeman.value p r)) S.balances) r.owner (Vbeman.value p r)) (by rw[zd7];exact hbl)
   refine⟨⟨_,rfl⟩,?_,λb o e n=>by rw[zbL n];exact k' b o e n⟩
   rw[et]
   exact HP
  ·obtain⟨⟨o,rfl⟩,HH',k'⟩:=h
   rw[List.length_map,hA3.1,List.take_length] at HH'
   have hh':=HH'.obj
   refine⟨_,rfl,gH T hh' rfl ⟨_,rfl,⟨_,_,rfl,rfl,⟨_,rfl,⟨_,_,rfl,rfl,?_⟩⟩⟩⟩⟩
   refine⟨_,rfl,h,_,dx,_,rfl,hh',T.clH,T.naH _ (by decide),by show 10 < 1000;decide,?_⟩
   have hh4:(upd H' h (.ins A.cHouse dx (zdO "till" (.int (S.till + Vbeman.rent p S.lines f - Vbeman.payouts p S.rights)) (zbY { S with balances:=S.rights.foldl (λl r=>Vbeman.pay l r.owner (Vbeman.value p r)) S.balances } ll lr lb bl)))) h=some (.ins A.cHouse dx (zbY { S with balances:=S.rights.foldl (λl r=>Vbeman.pay l r.owner (Vbeman.value p r)) S.balances,till:=S.till + Vbeman.rent p S.lines f - Vbeman.payouts p S.rights } ll lr lb bl)):=zbG
   refine⟨_,rfl,gH T hh4 rfl ⟨_,rfl,⟨_,_,rfl,rfl,?_⟩⟩⟩
   refine⟨_,rfl,h,_,dx,_,rfl,hh4,T.clH,T.naH _ (by decide),by show 10 < 1000;decide,?_⟩
   rw[zcg]
   refine⟨_,rfl,⟨_,rfl,?_⟩⟩
   have G:=HH.good.money (bs:=S.rights.foldl (λl r=>Vbeman.pay l r.owner (Vbeman.value p r)) S.balances) (by rw[ziO];exact HH.good.bl) (S.till + Vbeman.rent p S.lines f - Vbeman.payouts p S.rights) (S.cash - Vbeman.rent p S.lines f)
   exact zcZ q (dx:=dx) (ll1:=ll) (lr1:=lr) (lb1:=lb) (bl1:=bl) (HH'.finB (ll':=ll) (lr':=lr) (lb':=lb) zbG (by rw[zbL HH'.nbh];exact HH'.bal) zb7 HH'.la HH'.ra HH'.ba HH.d1 HH.d2 HH.d3 HH.d4 HH.d5 G) (zdP s13 (λb u e n1 n2=>by rw[zbL n1];exact k' b u e n2) (.inl rfl) (.inl rfl) (.inl rfl)) rfl
def zk1 (A:Ad):Sp:=λvs H Q _=>∃(h pa:Addr),vs=[.ref h,.ref pa]∧∃dx ll lr lb bl S p,HouseAt A H h dx ll lr lb bl S∧zc1 H pa p∧zeP p∧zlD A h ll lr lb bl H (Vbeman.onHouse S (.payout p)).1 (Vbeman.onHouse S (.payout p)).2 Q
abbrev zdX:=top 83
abbrev zfQ (P:Program) (w:World) (K:PySem.W.Frag) (mg:Str→Option Value) (base:Heap) (A:Ad):Prop:=FnI P w K mg base "tell_payout" 4 ["house","prices"] (zk1 A)
theorem zhN (F:Fun K "tell_payout" "tell_payout" zdX f fd) (T:Txt K mg A) (zaR:zhB P w K mg base A) (zav:ziu P w K mg base A):FnOk P w K mg base CX0 4 f fd ["house","prices"] (zk1 A):=by
 have sc:FnScope ["house","prices"] ["house","prices"] (zbK zdX):=fsc
 refine F.ok sc (by rintro _ _ _ _ ⟨h,pa,rfl,_⟩;rfl) λcdv Ar outer s H vs Q E hr h=>?_
 obtain⟨h,pa,rfl,h⟩:=h
 refine⟨_,(zbC (zbU (zbO zeG (zbT zcc (by rfl) T.n_len (by decide +kernel) (zbB (pv 1) zbD)) (zbE (pv 0) rfl) (zbR _)) (zbF (zbJ (zbQ (zbB (zb6 T.i_NOT_FITTING (by rfl)) zbD)))) zbM) (zbF (zbJ (zbQ (zbB zbN (zbB (zbH zaR (hr.mono (by decide)) (by rfl) (zbB (zbE (pv 0) rfl) (zbB (pv 1) zbD))) (zbB (zbH zav (hr.mono (by decide)) (by rfl) (zbB (zbE (pv 0) rfl) (zbB (pv 1) zbD))) zbD))))))),?_⟩
 obtain⟨dx,ll,lr,lb,bl,S,p,HH,hp,hpr,q⟩:=h
 have hh:=HH.obj
 have eo:=zna S p
 refine⟨_,rfl,?_⟩
 refine⟨_,_,rfl,.inl ⟨_,SqL.of hp,rfl⟩,?_⟩
 refine⟨_,rfl,gH T hh rfl ⟨rfl,_,rfl,?_⟩⟩
 rw[List.length_map]
 refine zb9 (λh1=>?_) (λh1=>?_)
 ·exact zbZ q HH (Same.refl _) (ans:=[-4]) (by rw[eo,if_pos (neI h1)]) rfl
 have h1:p.length=S.zones:=zll h1
 rw[if_neg (by omega)] at eo
 have hgl:=HH.good.ll
 have hgr:=HH.good.rl
 refine⟨_,rfl,gH T hh rfl ⟨_,rfl,?_⟩⟩
 refine⟨lr,pa,rfl,S.rights,p,HH.ra,hp,by omega,HH.good.inR h1,λH1 s1=>?_⟩
 have HH1:=HH.same s1
 have hh1:=HH1.obj
 refine⟨_,rfl,gH T hh1 rfl ⟨_,rfl,?_⟩⟩
 refine⟨ll,pa,rfl,S.lines,p,HH1.la,s1 _ _ hp,hpr,by omega,HH.good.inL h1,λH2 s2=>?_⟩
 exact zbZ q HH (s1.trans s2) eo rfl
def zmF (A:Ad):Sp:=λvs H Q _=>∃(h d pa:Addr),vs=[.ref h,.ref d,.ref pa]∧∃dx ll lr lb bl S k p,HouseAt A H h dx ll lr lb bl S∧H d=some (.dK (zdg [("right",((k:Nat):Int))]))∧zc1 H pa p∧zlD A h ll lr lb bl H (Vbeman.onHouse S (.value k p)).1 (Vbeman.onHouse S (.value k p)).2 Q
abbrev zes:=top 84
abbrev zgw (P:Program) (w:World) (K:PySem.W.Frag) (mg:Str→Option Value) (base:Heap) (A:Ad):Prop:=FnI P w K mg base "tell_value" 3 ["house","numbers","prices"] (zmF A)
theorem ziS (F:Fun K "tell_value" "tell_value" zes f fd) (T:Txt K mg A) (zax:zb1 P w K mg base A) (zbp:zjj P w K mg base A):FnOk P w K mg base CX0 3 f fd ["house","numbers","prices"] (zmF A):=by
 have sc:FnScope ["house","numbers","prices","right"] ["house","numbers","prices"] (zbK zes):=fsc
 refine F.ok sc (by rintro _ _ _ _ ⟨h,d,pa,rfl,_⟩;rfl) λcdv Ar outer s H vs Q E hr h=>?_
 obtain⟨h,d,pa,rfl,h⟩:=h
 refine⟨_,(zbC (zbP (i:=3) sc.nd rfl (by first | exact Or.inl rfl | exact Or.inr rfl) (zbH zax (hr.mono (by decide)) (by rfl) (zbB (zbE (pv 0) rfl) (zbB (zbS (zb8 hr) (pv 1) zbV (λ_ _=>rfl)) zbD)))) (zbC (zbU (zdu (zdB (pv 3))) (zbF (zbJ (zbQ (zbB (zb6 T.i_NOT_THERE (by rfl)) zbD)))) zbM) (zbC (zbU (zbO zeG (zbT zcc (by rfl) T.n_len (by decide +kernel) (zbB (pv 2) zbD)) (zbE (pv 0) rfl) (zbR _)) (zbF (zbJ (zbQ (zbB (zb6 T.i_NOT_FITTING (by rfl)) zbD)))) zbM) (zbF (zbJ (zbQ (zbB zbN (zbB (zbH zbp (hr.mono (by decide)) (by rfl) (zbB (pv 3) (zbB (pv 2) zbD))) zbD)))))))),?_⟩
 obtain⟨dx,ll,lr,lb,bl,S,k,p,HH,hd,hp,q⟩:=h
 have hh:=HH.obj
 refine⟨_,rfl,gH T hh rfl ⟨_,rfl,_,_,rfl,zdc hd,?_⟩⟩
 refine zci T HH.ra λv hv=>?_
 refine⟨_,rfl,?_⟩
 cases e:Vbeman.find S k with
 | none =>
  rw[show (S.rights.find? λr=>r.number == k)=none from e] at hv
  have hv:v=.non:=hv
  subst hv
  refine⟨_,rfl,zgc ?_⟩
  exact zbZ q HH (Same.refl _) (zm7 e) rfl
 | some r =>
  rw[show (S.rights.find? λr=>r.number == k)=some r from e] at hv
  obtain⟨a,rfl,hR⟩:=hv
  obtain⟨hm,hk,hO⟩:=zhq HH.good e
  have eo:=zow (p:=p) e
  refine⟨_,rfl,zi7 ?_⟩
  refine⟨_,rfl,?_⟩
  refine⟨_,_,rfl,.inl ⟨_,SqL.of hp,rfl⟩,?_⟩
  refine⟨_,rfl,gH T hh rfl ⟨rfl,_,rfl,?_⟩⟩
  rw[List.length_map]
  refine zb9 (λh1=>?_) (λh1=>?_)
  ·exact zbZ q HH (Same.refl _) (ans:=[-4]) (by rw[eo,if_pos (neI h1)]) rfl
  have h1:p.length=S.zones:=zll h1
  rw[if_neg (by omega)] at eo
  have hOr:=HH.good.inR h1 r hm
  refine⟨_,rfl,⟨_,rfl,?_⟩⟩
  refine⟨a,pa,rfl,r,p,hR,hp,hOr.1,hOr.2.1,hOr.2.2,?_⟩
  exact zbZ q HH (Same.refl _) eo rfl
end
end Z
namespace Z
open PySem PySem.Spec PyProof.Rows L2
open Vbeman (Line Right House Bid)
section
variable {P : Program} {w : World} {K : PySem.W.Frag} {mg : Str → Option Value} {base : Heap} {A : Ad} {f : Addr} {fd : FuncData}
def ziq (mkc:Nat→Vbeman.Call) (nums:List (Str×Int)) (c:Vbeman.Call):Prop:=∃(o:Nat),nums=([("owner",(o:Int))]:List (Str×Int))∧o < 8∧c=mkc o
abbrev zev:=top 69
abbrev zgz (P:Program) (w:World) (K:PySem.W.Frag) (mg:Str→Option Value) (base:Heap) (A:Ad):Prop:=FnI P w K mg base "tell_money" 4 ["house","numbers"] (zce A (ziq .money))
theorem ziV (F:Fun K "tell_money" "tell_money" zev f fd) (T:Txt K mg A) (zbw:zcT P w K mg base A):FnOk P w K mg base CX0 4 f fd ["house","numbers"] (zce A (ziq .money)):=by
 have sc:FnScope ["house","numbers","owner"] ["house","numbers"] (zbK zev):=fsc
 refine F.ok sc (by rintro _ _ _ _ ⟨h,d,rfl,_⟩;rfl) λcdv Ar outer s H vs Q E hr h=>?_
 obtain⟨h,d,rfl,h⟩:=h
 refine⟨_,(zbC (zbP (i:=2) sc.nd rfl (by first | exact Or.inl rfl | exact Or.inr rfl) (zbS (zb8 hr) (pv 1) zbV (λ_ _=>rfl))) (zbF (zbJ (zbQ (zbB zbN (zbB (zfp zdL (zbE (pv 0) rfl) (pv 2) (λ_ _=>rfl)) (zbB (zch zbw (hr.mono (by decide)) (pv 0) (zbB (pv 2) zbD)) zbD))))))),?_⟩
 obtain⟨dx,ll,lr,lb,bl,S,nums,c,HH,hd,⟨o,rfl,ho,rfl⟩,q⟩:=h
 have hh:=HH.obj
 refine⟨_,rfl,_,_,rfl,zdc hd,⟨_,rfl,gH T hh rfl ⟨_,rfl,?_⟩⟩⟩
 refine⟨bl,_,_,_,rfl,rfl,SqL.of HH.bal,zdi (zkR HH.good.bl ho),?_⟩
 refine⟨_,rfl,_,_,_,rfl,hh,rfl,⟨_,rfl,?_⟩⟩
 refine⟨h,o,rfl,ho,dx,S,ll,lr,lb,bl,HH,λH1 s1=>?_⟩
 exact zbZ q HH s1 (zoC S o) rfl
def zn0 (nums:List (Str×Int)) (c:Vbeman.Call):Prop:=∃(o:Nat) (m:Int),nums=([("owner",(o:Int)),("payin",m)]:List (Str×Int))∧o < 8∧c=.payin o m
theorem zqZ {bs:List Int} {o:Nat} (m:Int) (hb:bs.length=8) (ho:o < 8):(Vbeman.pay bs o m).getD o 0=bs.getD o 0 + m:=by
 have hx:bs[o]? = some bs[o]:=List.getElem?_eq_getElem (by omega)
 unfold Vbeman.pay
 rw[zf8 _ hx,List.getD_eq_getElem?_getD,List.getD_eq_getElem?_getD,List.getElem?_set_self (by omega),hx]
 rfl
abbrev ziH:=top 70
abbrev zlF (P:Program) (w:World) (K:PySem.W.Frag) (mg:Str→Option Value) (base:Heap) (A:Ad):Prop:=FnI P w K mg base "pay_in" 4 ["house","numbers"] (zce A zn0)
theorem znf (F:Fun K "pay_in" "pay_in" ziH f fd) (T:Txt K mg A) (zbz:zdA P w K mg base A) (zbw:zcT P w K mg base A):FnOk P w K mg base CX0 4 f fd ["house","numbers"] (zce A zn0):=by
 have sc:FnScope ["house","numbers","owner","amount"] ["house","numbers"] (zbK ziH):=fsc
 refine F.ok sc (by rintro _ _ _ _ ⟨h,d,rfl,_⟩;rfl) λcdv Ar outer s H vs Q E hr h=>?_
 obtain⟨h,d,rfl,h⟩:=h
 refine⟨_,(zbC (zbP (i:=2) sc.nd rfl (by first | exact Or.inl rfl | exact Or.inr rfl) (zbS (zb8 hr) (pv 1) zbV (λ_ _=>rfl))) (zbC (zbP (i:=3) sc.nd rfl (by first | exact Or.inl rfl | exact Or.inr rfl) (zbS (zb8 hr) (pv 1) zbV (λ_ _=>rfl))) (zbC (zbU (PW.pt (zif (zbO zeY (pv 3) zbN (zbR _)) (zf4 (zbO zeY (zch zbw (hr.mono (by decide)) (pv 0) (zbB (pv 2) zbD)) (zb2 zcz zbN (pv 3)) (zbR _))))) (zbF (zbJ (zbQ (zbB (zb6 T.i_TOO_DEAR (by rfl)) zbD)))) zbM) (zbC (zcf (zch zbz (hr.mono (by decide)) (pv 0) (zbB (pv 2) (zbB (pv 3) zbD)))) (zbC (zbX (pv 0) (zb2 zcz (zbE (pv 0) rfl) (pv 3)) rfl) (zbF (zbJ (zbQ (zbB zbN (zbB (zfp zdL (zbE (pv 0) rfl) (pv 2) (λ_ _=>rfl)) zbD)))))))))),?_⟩
 obtain⟨dx,ll,lr,lb,bl,S,nums,c,HH,hd,⟨o,m,rfl,ho,rfl⟩,q⟩:=h
 have hh:=HH.obj
 have eo:=zoA S o m
 have bal8:(Vbeman.pay S.balances o m).length=8:=by rw[zd7];exact HH.good.bl
 refine⟨_,rfl,_,_,rfl,zdc hd,⟨_,rfl,_,_,rfl,zdc hd,?_⟩⟩
 refine (λgo=>?main:(∀H1,Same H H1→¬(m < 0∧Vbeman.free S o < -m)→(?T:Hp→Prop) H1)→_) ?go
 case main =>
  refine⟨_,rfl,⟨_,_,rfl,rfl,⟨_,rfl,?_⟩⟩⟩
  refine zb9 (λh1=>?_) (λh1=>?_)
  ·have h1:m < 0:=of_decide_eq_true h1
   refine⟨_,rfl,_,_,_,rfl,hh,rfl,⟨_,rfl,?_⟩⟩
   refine⟨h,o,rfl,ho,dx,S,ll,lr,lb,bl,HH,λH1 s1=>?_⟩
   refine⟨_,rfl,⟨_,_,rfl,rfl,⟨_,_,rfl,rfl,⟨_,rfl,?_⟩⟩⟩⟩
   refine zb9 (λh2=>?_) (λh2=>?_)
   ·have h2:Vbeman.free S o < 0 - m:=of_decide_eq_true h2
    clear go
    exact zbZ q HH s1 (ans:=[-6]) (by rw[eo,if_pos (by omega)]) rfl
   ·have h2:¬Vbeman.free S o < 0 - m:=λz=>h2 (decide_eq_true z)
    exact go H1 s1 (by clear go;omega)
  ·have h1:¬m < 0:=λz=>h1 (decide_eq_true z)
   refine zi7 ?_
   exact go H (Same.refl _) (λz=>h1 z.1)
 case go =>
  intro H1 s1 hno
  rw[if_neg hno] at eo
  rw[eo] at q
  have HH1:=HH.same s1
  have hh1:=HH1.obj
  refine⟨_,rfl,_,_,_,rfl,hh1,rfl,⟨_,rfl,⟨_,rfl,?_⟩⟩⟩
  refine⟨h,o,m,rfl,ho,dx,S,ll,lr,lb,bl,S.balances,hh1,HH.good.bl,HH1.bal,?_⟩
  have HH2:=HH1.paid (bs:=Vbeman.pay S.balances o m) bal8
  have K2:zit h ll lr lb bl H1 ll lr lb bl (upd H1 bl (.lst ((Vbeman.pay S.balances o m).map V.int))):=zho
  generalize (upd H1 bl (.lst ((Vbeman.pay S.balances o m).map V.int)))=H2 at HH2 K2 ⊢
  have hh2:=HH2.obj
  refine⟨_,rfl,gH T hh2 rfl ⟨_,rfl,⟨_,_,rfl,rfl,?_⟩⟩⟩
  refine⟨_,rfl,h,_,dx,_,rfl,hh2,T.clH,T.naH _ (by decide),by show 10 < 1000;decide,?_⟩
  have G:=HH.good.money (bs:=Vbeman.pay S.balances o m) bal8 S.till (S.cash - m)
  have HH3:HouseAt A (upd H2 h (.ins A.cHouse dx (zbY { S with balances:=Vbeman.pay S.balances o m,cash:=S.cash - m } ll lr lb bl))) h dx ll lr lb bl { S with balances:=Vbeman.pay S.balances o m,cash:=S.cash - m } :=
   HH2.finB (ll':=ll) (lr':=lr) (lb':=lb) zbG (by rw[zbL HH2.nbh];exact HH2.bal) zb7 HH2.la HH2.ra HH2.ba HH.d1 HH.d2 HH.d3 HH.d4 HH.d5 G
  have K3:zit h ll lr lb bl H2 ll lr lb bl (upd H2 h (.ins A.cHouse dx (zbY { S with balances:=Vbeman.pay S.balances o m,cash:=S.cash - m } ll lr lb bl))):=zdP (Same.refl _) zb7 (.inl rfl) (.inl rfl) (.inl rfl)
  have hh3:=HH3.obj
  rw[show zdO "cash" (V.int (S.cash - m)) (zbY { S with balances:=Vbeman.pay S.balances o m } ll lr lb bl)=zbY { S with balances:=Vbeman.pay S.balances o m,cash:=S.cash - m } ll lr lb bl from rfl]
  generalize (upd H2 h (.ins A.cHouse dx (zbY { S with balances:=Vbeman.pay S.balances o m,cash:=S.cash - m } ll lr lb bl)))=H3 at HH3 K3 hh3 ⊢
  refine⟨_,rfl,gH T hh3 rfl ⟨_,rfl,?_⟩⟩
  refine⟨bl,_,_,_,rfl,rfl,SqL.of HH3.bal,zdi (zkR HH3.good.bl ho),?_⟩
  refine zcZ q HH3 (((zcd s1).trans K2).trans K3) ?_
  show [V.int 0,V.int ((Vbeman.pay S.balances o m).getD o 0)]=[V.int 0,V.int (Vbeman.balance S o + m)]
  rw[zqZ m HH.good.bl ho]
  rfl
abbrev zdo:=top 71
abbrev zeS (P:Program) (w:World) (K:PySem.W.Frag) (mg:Str→Option Value) (base:Heap) (A:Ad):Prop:=FnI P w K mg base "tell_accounts" 1 ["house"] (zep A .house)
theorem zgE (F:Fun K "tell_accounts" "tell_accounts" zdo f fd) (T:Txt K mg A):FnOk P w K mg base CX0 1 f fd ["house"] (zep A .house):=by
 have sc:FnScope ["house"] ["house"] (zbK zdo):=fsc
 refine F.ok sc (by rintro _ _ _ _ ⟨h,rfl,_⟩;rfl) λcdv Ar outer s H vs Q E hr h=>?_
 obtain⟨h,rfl,h⟩:=h
 refine⟨_,(zbF (zbJ (zbQ (zbB zbN (zbB (zbE (pv 0) rfl) (zbB (zbE (pv 0) rfl) (zbB (zbE (pv 0) rfl) zbD))))))),?_⟩
 obtain⟨dx,ll,lr,lb,bl,S,HH,q⟩:=h
 have hh:=HH.obj
 refine⟨_,rfl,gH T hh rfl ⟨_,rfl,gH T hh rfl ⟨_,rfl,gH T hh rfl ?_⟩⟩⟩
 exact zbZ q HH (Same.refl _) (zoE S) rfl
def zdK (l:Line):List Int:=[(l.a:Int),(l.b:Int),l.forth,l.back]
def zcO (r:Right):List Int:=[(r.number:Int),(r.owner:Int),(r.source:Int),(r.sink:Int),Vbeman.bit r.option,r.amount]
def zkm (b:Bid):List Int:=[(b.number:Int),(b.owner:Int),(b.source:Int),(b.sink:Int),Vbeman.bit b.option,b.left,b.price]
def zpy (r:Right):List Int:=[(r.number:Int),(r.source:Int),(r.sink:Int),Vbeman.bit r.option,r.amount]
def zlQ (A:Ad) (f:House→List Int):Sp:=λvs H Q _=>∃(h:Addr),vs=[.ref h]∧∃dx ll lr lb bl S,HouseAt A H h dx ll lr lb bl S∧∀H' p,Same H H'→H p=none→H' p=some (.lst ((f S).map V.int))→Q (.ref p) H'
theorem zc6 {α:Type} (f:α→List Int) (m:Nat) (h:∀x,(f x).length=m) (l:List α):(l.flatMap f).length=m * l.length:=by
 induction l with
 | nil=>rfl
 | cons x l ih=>rw[List.flatMap_cons,List.length_append,ih,h,List.length_cons,Nat.mul_succ,Nat.add_comm]
abbrev zdE:=top 95
abbrev ze2 (P:Program) (w:World) (K:PySem.W.Frag) (mg:Str→Option Value) (base:Heap) (A:Ad):Prop:=FnI P w K mg base "row_of_lines" 1 ["house"] (zlQ A (λS=>S.lines.flatMap zdK))
theorem zhf (F:Fun K "row_of_lines" "row_of_lines" zdE f fd) (T:Txt K mg A):FnOk P w K mg base CX0 1 f fd ["house"] (zlQ A (λS=>S.lines.flatMap zdK)):=by
 have sc:FnScope ["house","row","line"] ["house"] (zbK zdE):=fsc
 refine F.ok sc (by rintro _ _ _ _ ⟨h,rfl,_⟩;rfl) λcdv Ar outer s H vs Q E hr h=>?_
 obtain⟨h,rfl,h⟩:=h
 refine⟨_,(zbC (zbP (i:=1) sc.nd rfl (by first | exact Or.inl rfl | exact Or.inr rfl) (zbQ zbD)) (zbC (zdv PassesOwn.never rfl (zcD (zbE (pv 0) rfl)) (zbW (i:=2) sc.nd (by rfl) (by first | exact Or.inl rfl | exact Or.inr rfl) (by first | exact Or.inl rfl | exact Or.inr rfl)) (zbF (zcf (zeF PySem.F.plainAttrs_list PySem.F.slot_list_extend PySem.F.type_list_extend zdx (pv 1) (zbB (zbQ (zbB (zbE (pv 2) rfl) (zbB (zbE (pv 2) rfl) (zbB (zbE (pv 2) rfl) (zbB (zbE (pv 2) rfl) zbD))))) zbD))))) (zbF (zbJ (pv 1))))),?_⟩
 obtain⟨dx,ll,lr,lb,bl,S,HH,q⟩:=h
 refine⟨(by show 0≤sizeLine;decide),λD hD=>?_⟩
 have s0:Same H (upd H D (.lst [])):=Same.upd hD
 have hD0:(upd H D (.lst [])) D=some (.lst []):=zbG
 generalize (upd H D (.lst []))=H0 at s0 hD0 ⊢
 have HH0:=HH.same s0
 have hh0:=HH0.obj
 obtain⟨as,ha,hA⟩:=HH0.la
 have hg:=HH.good.ll
 refine⟨_,rfl,gH T hh0 rfl ?_⟩
 refine⟨ll,rfl,⟨_,SqL.of ha⟩,?_⟩
 have nD:ll≠D:=let ⟨_,e,_⟩:=HH.la;zbI e hD
 refine zcR (K:=K) (xs:=as.map V.ref) (λi σ H'=>(∃o2,σ=[some (.ref h),some (.ref D),o2])∧(∀b o,H0 b=some o→b≠D→H' b=some o)∧H' D=some (.lst (((S.lines.take i).flatMap zdK).map V.int))) ⟨⟨none,rfl⟩,λb o e _=>e,hD0⟩ (λi σ H' _ h=>SqL.of (h.2.1 _ _ ha nD)) (λi x σ H' hx h=>?_) (λσ H' h=>?_)
 ·obtain⟨⟨o2,rfl⟩,k1,h1⟩:=h
  obtain⟨p,r,rfl,hr',hR0⟩:=hA.get hx
  have np:=hR0.ne hD0 (.inl ⟨_,rfl⟩)
  obtain⟨dr,hR0⟩:=hR0
  have hR:=k1 _ _ hR0 np
  have es:(S.lines.take (i + 1)).flatMap zdK=(S.lines.take i).flatMap zdK++zdK r:=by
   rw[L2.zb4 hr',List.flatMap_append,List.flatMap_singleton]
  have hlen:(((S.lines.take i).flatMap zdK).map V.int).length≤40:=by
   rw[List.length_map,zc6 zdK 4 (λ_=>rfl),List.length_take]
   omega
  refine⟨_,rfl,.inl ⟨rfl,_,SqL.of h1⟩,?_⟩
  refine⟨_,rfl,gL T hR rfl ⟨_,rfl,gL T hR rfl ⟨_,rfl,gL T hR rfl ⟨_,rfl,gL T hR rfl ?_⟩⟩⟩⟩
  refine⟨(by show 4≤sizeLine;decide),λp2 hp2=>?_⟩
  have nD2:D≠p2:=zbI h1 hp2
  refine⟨D,p2,_,_,rfl,rfl,Same.upd hp2 _ _ h1,zbG,?_,⟨_,rfl⟩,λc o e n=>?_,?_⟩
  ·exact Nat.le_trans (Nat.add_le_add_right hlen 4) (by decide)
  ·rw[zbL n];exact Same.upd hp2 _ _ (k1 c o e n)
  ·rw[zbG,es,List.map_append];rfl
 ·obtain⟨⟨o2,rfl⟩,k1,h1⟩:=h
  rw[List.length_map,hA.1,List.take_length] at h1
  refine⟨_,rfl,?_⟩
  exact q _ D (λb o e=>k1 _ _ (s0 _ _ e) (zbI e hD)) hD h1
abbrev zdq:=top 96
abbrev zeU (P:Program) (w:World) (K:PySem.W.Frag) (mg:Str→Option Value) (base:Heap) (A:Ad):Prop:=FnI P w K mg base "row_of_rights" 1 ["house"] (zlQ A (λS=>S.rights.flatMap zcO))
theorem zgG (F:Fun K "row_of_rights" "row_of_rights" zdq f fd) (T:Txt K mg A):FnOk P w K mg base CX0 1 f fd ["house"] (zlQ A (λS=>S.rights.flatMap zcO)):=by
 have sc:FnScope ["house","row","right"] ["house"] (zbK zdq):=fsc
 refine F.ok sc (by rintro _ _ _ _ ⟨h,rfl,_⟩;rfl) λcdv Ar outer s H vs Q E hr h=>?_
 obtain⟨h,rfl,h⟩:=h
 refine⟨_,(zbC (zbP (i:=1) sc.nd rfl (by first | exact Or.inl rfl | exact Or.inr rfl) (zbQ zbD)) (zbC (zdv PassesOwn.never rfl (zcD (zbE (pv 0) rfl)) (zbW (i:=2) sc.nd (by rfl) (by first | exact Or.inl rfl | exact Or.inr rfl) (by first | exact Or.inl rfl | exact Or.inr rfl)) (zbF (zcf (zeF PySem.F.plainAttrs_list PySem.F.slot_list_extend PySem.F.type_list_extend zdx (pv 1) (zbB (zbQ (zbB (zbE (pv 2) rfl) (zbB (zbE (pv 2) rfl) (zbB (zbE (pv 2) rfl) (zbB (zbE (pv 2) rfl) (zbB (zbE (pv 2) rfl) (zbB (zbE (pv 2) rfl) zbD))))))) zbD))))) (zbF (zbJ (pv 1))))),?_⟩
 obtain⟨dx,ll,lr,lb,bl,S,HH,q⟩:=h
 refine⟨(by show 0≤sizeLine;decide),λD hD=>?_⟩
 have s0:Same H (upd H D (.lst [])):=Same.upd hD
 have hD0:(upd H D (.lst [])) D=some (.lst []):=zbG
 generalize (upd H D (.lst []))=H0 at s0 hD0 ⊢
 have HH0:=HH.same s0
 have hh0:=HH0.obj
 obtain⟨as,ha,hA⟩:=HH0.ra
 have hg:=HH.good.rl
 refine⟨_,rfl,gH T hh0 rfl ?_⟩
 refine⟨lr,rfl,⟨_,SqL.of ha⟩,?_⟩
 have nD:lr≠D:=let ⟨_,e,_⟩:=HH.ra;zbI e hD
 refine zcR (K:=K) (xs:=as.map V.ref) (λi σ H'=>(∃o2,σ=[some (.ref h),some (.ref D),o2])∧(∀b o,H0 b=some o→b≠D→H' b=some o)∧H' D=some (.lst (((S.rights.take i).flatMap zcO).map V.int))) ⟨⟨none,rfl⟩,λb o e _=>e,hD0⟩ (λi σ H' _ h=>SqL.of (h.2.1 _ _ ha nD)) (λi x σ H' hx h=>?_) (λσ H' h=>?_)
 ·obtain⟨⟨o2,rfl⟩,k1,h1⟩:=h
  obtain⟨p,r,rfl,hr',hR0⟩:=hA.get hx
  have np:=hR0.ne hD0 (.inl ⟨_,rfl⟩)
  obtain⟨dr,hR0⟩:=hR0
  have hR:=k1 _ _ hR0 np
  have es:(S.rights.take (i + 1)).flatMap zcO=(S.rights.take i).flatMap zcO++zcO r:=by
   rw[L2.zb4 hr',List.flatMap_append,List.flatMap_singleton]
  have hlen:(((S.rights.take i).flatMap zcO).map V.int).length≤180:=by
   rw[List.length_map,zc6 zcO 6 (λ_=>rfl),List.length_take]
   omega
  refine⟨_,rfl,.inl ⟨rfl,_,SqL.of h1⟩,?_⟩
  refine⟨_,rfl,gR T hR rfl ⟨_,rfl,gR T hR rfl ⟨_,rfl,gR T hR rfl ⟨_,rfl,gR T hR rfl ⟨_,rfl,gR T hR rfl ⟨_,rfl,gR T hR rfl ?_⟩⟩⟩⟩⟩⟩
  refine⟨(by show 6≤sizeLine;decide),λp2 hp2=>?_⟩
  refine⟨D,p2,_,_,rfl,rfl,Same.upd hp2 _ _ h1,zbG,?_,⟨_,rfl⟩,λc o e n=>?_,?_⟩
  ·exact Nat.le_trans (Nat.add_le_add_right hlen 6) (by decide)
  ·rw[zbL n];exact Same.upd hp2 _ _ (k1 c o e n)
  ·rw[zbG,es,List.map_append];rfl
 ·obtain⟨⟨o2,rfl⟩,k1,h1⟩:=h
  rw[List.length_map,hA.1,List.take_length] at h1
  refine⟨_,rfl,?_⟩
  exact q _ D (λb o e=>k1 _ _ (s0 _ _ e) (zbI e hD)) hD h1
abbrev zd0:=top 97
abbrev zfT (P:Program) (w:World) (K:PySem.W.Frag) (mg:Str→Option Value) (base:Heap) (A:Ad):Prop:=FnI P w K mg base "row_of_bids" 1 ["house"] (zlQ A (λS=>S.bids.flatMap zkm))
theorem zhQ (F:Fun K "row_of_bids" "row_of_bids" zd0 f fd) (T:Txt K mg A):FnOk P w K mg base CX0 1 f fd ["house"] (zlQ A (λS=>S.bids.flatMap zkm)):=by
 have sc:FnScope ["house","row","bid"] ["house"] (zbK zd0):=fsc
 refine F.ok sc (by rintro _ _ _ _ ⟨h,rfl,_⟩;rfl) λcdv Ar outer s H vs Q E hr h=>?_
 obtain⟨h,rfl,h⟩:=h
 refine⟨_,(zbC (zbP (i:=1) sc.nd rfl (by first | exact Or.inl rfl | exact Or.inr rfl) (zbQ zbD)) (zbC (zdv PassesOwn.never rfl (zcD (zbE (pv 0) rfl)) (zbW (i:=2) sc.nd (by rfl) (by first | exact Or.inl rfl | exact Or.inr rfl) (by first | exact Or.inl rfl | exact Or.inr rfl)) (zbF (zcf (zeF PySem.F.plainAttrs_list PySem.F.slot_list_extend PySem.F.type_list_extend zdx (pv 1) (zbB (zbQ (zbB (zbE (pv 2) rfl) (zbB (zbE (pv 2) rfl) (zbB (zbE (pv 2) rfl) (zbB (zbE (pv 2) rfl) (zbB (zbE (pv 2) rfl) (zbB (zbE (pv 2) rfl) (zbB (zbE (pv 2) rfl) zbD)))))))) zbD))))) (zbF (zbJ (pv 1))))),?_⟩
 obtain⟨dx,ll,lr,lb,bl,S,HH,q⟩:=h
 refine⟨(by show 0≤sizeLine;decide),λD hD=>?_⟩
 have s0:Same H (upd H D (.lst [])):=Same.upd hD
 have hD0:(upd H D (.lst [])) D=some (.lst []):=zbG
 generalize (upd H D (.lst []))=H0 at s0 hD0 ⊢
 have HH0:=HH.same s0
 have hh0:=HH0.obj
 obtain⟨as,ha,hA⟩:=HH0.ba
 have hg:=HH.good.nb.len
 refine⟨_,rfl,gH T hh0 rfl ?_⟩
 refine⟨lb,rfl,⟨_,SqL.of ha⟩,?_⟩
 have nD:lb≠D:=let ⟨_,e,_⟩:=HH.ba;zbI e hD
 refine zcR (K:=K) (xs:=as.map V.ref) (λi σ H'=>(∃o2,σ=[some (.ref h),some (.ref D),o2])∧(∀b o,H0 b=some o→b≠D→H' b=some o)∧H' D=some (.lst (((S.bids.take i).flatMap zkm).map V.int))) ⟨⟨none,rfl⟩,λb o e _=>e,hD0⟩ (λi σ H' _ h=>SqL.of (h.2.1 _ _ ha nD)) (λi x σ H' hx h=>?_) (λσ H' h=>?_)
 ·obtain⟨⟨o2,rfl⟩,k1,h1⟩:=h
  obtain⟨p,r,rfl,hr',hR0⟩:=hA.get hx
  have np:=hR0.ne hD0 (.inl ⟨_,rfl⟩)
  obtain⟨dr,hR0⟩:=hR0
  have hR:=k1 _ _ hR0 np
  have es:(S.bids.take (i + 1)).flatMap zkm=(S.bids.take i).flatMap zkm++zkm r:=by
   rw[L2.zb4 hr',List.flatMap_append,List.flatMap_singleton]
  have hlen:(((S.bids.take i).flatMap zkm).map V.int).length≤70:=by
   rw[List.length_map,zc6 zkm 7 (λ_=>rfl),List.length_take]
   omega
  refine⟨_,rfl,.inl ⟨rfl,_,SqL.of h1⟩,?_⟩
  refine⟨_,rfl,gB T hR rfl ⟨_,rfl,gB T hR rfl ⟨_,rfl,gB T hR rfl ⟨_,rfl,gB T hR rfl ⟨_,rfl,gB T hR rfl ⟨_,rfl,gB T hR rfl ⟨_,rfl,gB T hR rfl ?_⟩⟩⟩⟩⟩⟩⟩
  refine⟨(by show 7≤sizeLine;decide),λp2 hp2=>?_⟩
  refine⟨D,p2,_,_,rfl,rfl,Same.upd hp2 _ _ h1,zbG,?_,⟨_,rfl⟩,λc o e n=>?_,?_⟩
  ·exact Nat.le_trans (Nat.add_le_add_right hlen 7) (by decide)
  ·rw[zbL n];exact Same.upd hp2 _ _ (k1 c o e n)
  ·rw[zbG,es,List.map_append];rfl
 ·obtain⟨⟨o2,rfl⟩,k1,h1⟩:=h
  rw[List.length_map,hA.1,List.take_length] at h1
  refine⟨_,rfl,?_⟩
  exact q _ D (λb o e=>k1 _ _ (s0 _ _ e) (zbI e hD)) hD h1
theorem zov (l:List Right) (r:Right) (o:Nat):((l++[r]).filter λr=>r.owner == o).flatMap zpy=(l.filter λr=>r.owner == o).flatMap zpy++(if r.owner=o then zpy r else []):=by
 rw[List.filter_append,List.flatMap_append]
 by_cases h:r.owner=o
 ·rw[if_pos h,List.filter_cons_of_pos (by simpa using h),List.filter_nil,List.flatMap_singleton]
 ·rw[if_neg h,List.filter_cons_of_neg (by simpa using h),List.filter_nil,List.flatMap_nil]
theorem zm6 (l:List Right) (o:Nat):((l.filter λr=>r.owner == o).flatMap zpy).length≤5 * l.length:=by
 rw[zc6 zpy 5 (λ_=>rfl)]
 exact Nat.mul_le_mul_left _ (List.length_filter_le _ _)
abbrev zdW:=top 93
abbrev zfP (P:Program) (w:World) (K:PySem.W.Frag) (mg:Str→Option Value) (base:Heap) (A:Ad):Prop:=FnI P w K mg base "tell_rights" 2 ["house","numbers"] (zce A (ziq .rights))
theorem zhM (F:Fun K "tell_rights" "tell_rights" zdW f fd) (T:Txt K mg A) (zas:zdS P w K mg base A):FnOk P w K mg base CX0 2 f fd ["house","numbers"] (zce A (ziq .rights)):=by
 have sc:FnScope ["house","numbers","row","right"] ["house","numbers"] (zbK zdW):=fsc
 refine F.ok sc (by rintro _ _ _ _ ⟨h,d,rfl,_⟩;rfl) λcdv Ar outer s H vs Q E hr h=>?_
 obtain⟨h,d,rfl,h⟩:=h
 refine⟨_,(zbC (zbP (i:=2) sc.nd rfl (by first | exact Or.inl rfl | exact Or.inr rfl) (zbQ zbD)) (zbC (zdv PassesOwn.never rfl (zcD (zbE (pv 0) rfl)) (zbW (i:=3) sc.nd (by rfl) (by first | exact Or.inl rfl | exact Or.inr rfl) (by first | exact Or.inl rfl | exact Or.inr rfl)) (zbF (zbU (zbO zcs (zbE (pv 3) rfl) (zbS (zb8 hr) (pv 1) zbV (λ_ _=>rfl)) (zbR _)) (zbF (zcf (zeF PySem.F.plainAttrs_list PySem.F.slot_list_extend PySem.F.type_list_extend zdx (pv 2) (zbB (zbQ (zbB (zbE (pv 3) rfl) (zbB (zbE (pv 3) rfl) (zbB (zbE (pv 3) rfl) (zbB (zbE (pv 3) rfl) (zbB (zbE (pv 3) rfl) zbD)))))) zbD)))) zbM))) (zbF (zbJ (zb2 zdw (zbQ (zbB zbN zbD)) (zbH zas (hr.mono (by decide)) (by rfl) (zbB (pv 2) zbD))))))),?_⟩
 obtain⟨dx,ll,lr,lb,bl,S,nums,c,HH,hd,⟨ow,rfl,how,rfl⟩,q⟩:=h
 refine⟨(by show 0≤sizeLine;decide),λD hD=>?_⟩
 have s0:Same H (upd H D (.lst [])):=Same.upd hD
 have hD0:(upd H D (.lst [])) D=some (.lst []):=zbG
 generalize (upd H D (.lst []))=H0 at s0 hD0 ⊢
 have HH0:=HH.same s0
 have hh0:=HH0.obj
 have hd0:=s0 _ _ hd
 obtain⟨as,ha,hA⟩:=HH0.ra
 have hg:=HH.good.rl
 refine⟨_,rfl,gH T hh0 rfl ?_⟩
 refine⟨lr,rfl,⟨_,SqL.of ha⟩,?_⟩
 have nD:lr≠D:=let ⟨_,e,_⟩:=HH.ra;zbI e hD
 have ndD:d≠D:=zbI hd hD
 refine zcR (K:=K) (xs:=as.map V.ref) (λi σ H'=>(∃o2,σ=[some (.ref h),some (.ref d),some (.ref D),o2])∧(∀b o,H0 b=some o→b≠D→H' b=some o)∧H' D=some (.lst ((((S.rights.take i).filter λr=>r.owner == ow).flatMap zpy).map V.int))) ⟨⟨none,rfl⟩,λb o e _=>e,hD0⟩ (λi σ H' _ h=>SqL.of (h.2.1 _ _ ha nD)) (λi x σ H' hx h=>?_) (λσ H' h=>?_)
 ·obtain⟨⟨o2,rfl⟩,k1,h1⟩:=h
  obtain⟨p,r,rfl,hr',hR0⟩:=hA.get hx
  have np:=hR0.ne hD0 (.inl ⟨_,rfl⟩)
  obtain⟨dr,hR0⟩:=hR0
  have hR:=k1 _ _ hR0 np
  have hd1:=k1 _ _ hd0 ndD
  have es:=zov (S.rights.take i) r ow
  rw[←L2.zb4 hr'] at es
  have hlen:((((S.rights.take i).filter λr=>r.owner == ow).flatMap zpy).map V.int).length≤150:=by
   rw[List.length_map]
   have:=zm6 (S.rights.take i) ow
   rw[List.length_take] at this
   omega
  refine⟨_,rfl,gR T hR rfl ⟨_,rfl,_,_,rfl,zdc hd1,⟨rfl,_,rfl,zb9 (λh2=>?_) (λh2=>?_)⟩⟩⟩
  ·have h2:r.owner=ow:=by have:=isI h2;omega
   rw[if_pos h2] at es
   refine⟨_,rfl,.inl ⟨rfl,_,SqL.of h1⟩,?_⟩
   refine⟨_,rfl,gR T hR rfl ⟨_,rfl,gR T hR rfl ⟨_,rfl,gR T hR rfl ⟨_,rfl,gR T hR rfl ⟨_,rfl,gR T hR rfl ?_⟩⟩⟩⟩⟩
   refine⟨(by show 5≤sizeLine;decide),λp2 hp2=>?_⟩
   refine⟨D,p2,_,_,rfl,rfl,Same.upd hp2 _ _ h1,zbG,?_,⟨_,rfl⟩,λc o e n=>?_,?_⟩
   ·exact Nat.le_trans (Nat.add_le_add_right hlen 5) (by decide)
   ·rw[zbL n];exact Same.upd hp2 _ _ (k1 c o e n)
   ·rw[zbG,es,List.map_append];rfl
  ·have h2:¬r.owner=ow:=λz=>h2 (decide_eq_true (by rw[z]))
   rw[if_neg h2,List.append_nil] at es
   exact⟨⟨_,rfl⟩,k1,by rw[es];exact h1⟩
 ·obtain⟨⟨o2,rfl⟩,k1,h1⟩:=h
  rw[List.length_map,hA.1,List.take_length] at h1
  have s1:Same H H':=λb o e=>k1 _ _ (s0 _ _ e) (zbI e hD)
  have eo:=zm9 S ow
  have q2:zlD A h ll lr lb bl H S (0::Vbeman.row ((S.rights.filter λr=>r.owner == ow).flatMap zpy)) Q:=by
   have q3:=q
   rw[eo] at q3
   exact q3
  refine⟨by show 1≤sizeLine;decide,λp hp=>?_⟩
  refine⟨_,rfl,?_⟩
  exact zhs (xs:=[0]) q2 (HH.same s1) (zcd s1) h1 (by have:=zm6 S.rights ow;omega) (by decide) rfl rfl hp
abbrev zeu:=top 94
abbrev zgy (P:Program) (w:World) (K:PySem.W.Frag) (mg:Str→Option Value) (base:Heap) (A:Ad):Prop:=FnI P w K mg base "tell_state" 2 ["house"] (zep A .state)
theorem ziU (F:Fun K "tell_state" "tell_state" zeu f fd) (T:Txt K mg A) (zas:zdS P w K mg base A) (za1:zfT P w K mg base A) (za3:ze2 P w K mg base A) (za4:zeU P w K mg base A):FnOk P w K mg base CX0 2 f fd ["house"] (zep A .state):=by
 have sc:FnScope ["house","numbers","rows"] ["house"] (zbK zeu):=fsc
 refine F.ok sc (by rintro _ _ _ _ ⟨h,rfl,_⟩;rfl) λcdv Ar outer s H vs Q E hr h=>?_
 obtain⟨h,rfl,h⟩:=h
 refine⟨_,(zbC (zbP (i:=1) sc.nd rfl (by first | exact Or.inl rfl | exact Or.inr rfl) (zbQ (zbB (zbE (pv 0) rfl) (zbB (zbE (pv 0) rfl) (zbB (zbE (pv 0) rfl) zbD))))) (zbC (zbP (i:=2) sc.nd rfl (by first | exact Or.inl rfl | exact Or.inr rfl) (zb2 zdw (zb2 zdw (zbH zas (hr.mono (by decide)) (by rfl) (zbB (zbH za3 (hr.mono (by decide)) (by rfl) (zbB (pv 0) zbD)) zbD)) (zbH zas (hr.mono (by decide)) (by rfl) (zbB (zbH za4 (hr.mono (by decide)) (by rfl) (zbB (pv 0) zbD)) zbD))) (zbH zas (hr.mono (by decide)) (by rfl) (zbB (zbH za1 (hr.mono (by decide)) (by rfl) (zbB (pv 0) zbD)) zbD)))) (zbF (zbJ (zb2 zdw (zb2 zdw (zbQ (zbB zbN zbD)) (pv 1)) (pv 2)))))),?_⟩
 obtain⟨dx,ll,lr,lb,bl,S,HH,q⟩:=h
 have hh:=HH.obj
 rw[zoz] at q
 have hgl:=HH.good.ll
 have hgr:=HH.good.rl
 have hgb:=HH.good.nb.len
 have l1:=zc6 zdK 4 (λ_=>rfl) S.lines
 have l2:=zc6 zcO 6 (λ_=>rfl) S.rights
 have l3:=zc6 zkm 7 (λ_=>rfl) S.bids
 refine⟨_,rfl,gH T hh rfl ⟨_,rfl,gH T hh rfl ⟨_,rfl,gH T hh rfl ?_⟩⟩⟩
 refine⟨by show 3≤sizeLine;decide,λpn hpn=>?_⟩
 have s0:Same H (upd H pn (.lst [V.int S.zones,V.int S.nextRight,V.int S.nextBid])):=Same.upd hpn
 have hn0:(upd H pn (.lst [V.int S.zones,V.int S.nextRight,V.int S.nextBid])) pn=some (.lst [V.int S.zones,V.int S.nextRight,V.int S.nextBid]):=zbG
 generalize (upd H pn (.lst [V.int S.zones,V.int S.nextRight,V.int S.nextBid]))=H0 at s0 hn0 ⊢
 have HH0:=HH.same s0
 refine⟨_,rfl,?_⟩
 refine⟨h,rfl,dx,ll,lr,lb,bl,S,HH0,λH1 p1 s1 hp1 h1=>?_⟩
 refine⟨p1,rfl,_,h1,(by show (S.lines.flatMap zdK).length≤1000;omega),λH2 p2 s2 hp2 h2=>?_⟩
 have s02:=(s0.trans s1).trans s2
 have HH2:=HH.same s02
 refine⟨_,rfl,?_⟩
 refine⟨h,rfl,dx,ll,lr,lb,bl,S,HH2,λH3 p3 s3 hp3 h3=>?_⟩
 refine⟨p3,rfl,_,h3,(by show (S.rights.flatMap zcO).length≤1000;omega),λH4 p4 s4 hp4 h4=>?_⟩
 have s24:=s3.trans s4
 refine⟨p2,p4,_,_,rfl,rfl,s24 _ _ h2,h4,?_,λp5 hp5=>?_⟩
 ·rw[List.length_map,List.length_map]
  show ((S.lines.flatMap zdK).length + 1) + ((S.rights.flatMap zcO).length + 1)≤sizeLine
  exact Nat.le_trans (show _≤300 by omega) (by decide)
 have s5:Same H4 (upd H4 p5 (.lst ((Vbeman.row (S.lines.flatMap zdK)).map V.int++(Vbeman.row (S.rights.flatMap zcO)).map V.int))):=Same.upd hp5
 have h5:(upd H4 p5 (.lst ((Vbeman.row (S.lines.flatMap zdK)).map V.int++(Vbeman.row (S.rights.flatMap zcO)).map V.int))) p5=some (.lst ((Vbeman.row (S.lines.flatMap zdK)).map V.int++(Vbeman.row (S.rights.flatMap zcO)).map V.int)):=zbG
 generalize (upd H4 p5 (.lst ((Vbeman.row (S.lines.flatMap zdK)).map V.int++(Vbeman.row (S.rights.flatMap zcO)).map V.int)))=H5 at s5 h5 ⊢
 have s05:=(s02.trans s24).trans s5
 have HH5:=HH.same s05
 refine⟨_,rfl,?_⟩
 refine⟨h,rfl,dx,ll,lr,lb,bl,S,HH5,λH6 p6 s6 hp6 h6=>?_⟩
 refine⟨p6,rfl,_,h6,(by show (S.bids.flatMap zkm).length≤1000;omega),λH7 p7 s7 hp7 h7=>?_⟩
 have s57:=s6.trans s7
 refine⟨p5,p7,_,_,rfl,rfl,s57 _ _ h5,h7,?_,λp8 hp8=>?_⟩
 ·rw[List.length_append,List.length_map,List.length_map,List.length_map]
  show ((S.lines.flatMap zdK).length + 1) + ((S.rights.flatMap zcO).length + 1) + ((S.bids.flatMap zkm).length + 1)≤sizeLine
  exact Nat.le_trans (show _≤400 by omega) (by decide)
 generalize hrows:(Vbeman.row (S.lines.flatMap zdK)).map V.int++(Vbeman.row (S.rights.flatMap zcO)).map V.int++(Vbeman.row (S.bids.flatMap zkm)).map V.int=rows at *
 have s8:Same H7 (upd H7 p8 (.lst rows)):=Same.upd hp8
 have h8:(upd H7 p8 (.lst rows)) p8=some (.lst rows):=zbG
 generalize (upd H7 p8 (.lst rows))=H8 at s8 h8 ⊢
 have s08:=(s05.trans s57).trans s8
 refine⟨by show 1≤sizeLine;decide,λp9 hp9=>?_⟩
 have s9:Same H8 (upd H8 p9 (.lst [V.int 0])):=Same.upd hp9
 have h9:(upd H8 p9 (.lst [V.int 0])) p9=some (.lst [V.int 0]):=zbG
 generalize (upd H8 p9 (.lst [V.int 0]))=H9 at s9 h9 ⊢
 have s09:=s08.trans s9
 have hn9:H9 pn=some (.lst [V.int S.zones,V.int S.nextRight,V.int S.nextBid]):=s9 _ _ (s8 _ _ (s57 _ _ (s5 _ _ (s24 _ _ (s2 _ _ (s1 _ _ hn0))))))
 refine⟨_,rfl,?_⟩
 refine⟨p9,pn,_,_,rfl,rfl,h9,hn9,by show 1 + 3≤sizeLine;decide,λpa hpa=>?_⟩
 have sa:Same H9 (upd H9 pa (.lst ([V.int 0]++[V.int S.zones,V.int S.nextRight,V.int S.nextBid]))):=Same.upd hpa
 have ha:(upd H9 pa (.lst ([V.int 0]++[V.int S.zones,V.int S.nextRight,V.int S.nextBid]))) pa=some (.lst ([V.int 0]++[V.int S.zones,V.int S.nextRight,V.int S.nextBid])):=zbG
 generalize (upd H9 pa (.lst ([V.int 0]++[V.int S.zones,V.int S.nextRight,V.int S.nextBid])))=Ha at sa ha ⊢
 have s0a:=s09.trans sa
 have erl:rows.length=((S.lines.flatMap zdK).length + 1) + ((S.rights.flatMap zcO).length + 1) + ((S.bids.flatMap zkm).length + 1):=by
  rw[←hrows,List.length_append,List.length_append,List.length_map,List.length_map,List.length_map]
  rfl
 refine⟨_,rfl,?_⟩
 refine⟨pa,p8,_,_,rfl,rfl,ha,sa _ _ (s9 _ _ h8),?_,λpz hpz=>?_⟩
 ·show 4 + rows.length≤sizeLine
  exact Nat.le_trans (show _≤400 by omega) (by decide)
 have sz:Same Ha (upd Ha pz (.lst (([V.int 0]++[V.int S.zones,V.int S.nextRight,V.int S.nextBid])++rows))):=Same.upd hpz
 have s0z:=s0a.trans sz
 refine q _ pz dx ll lr lb bl (HH.same s0z) (zcd s0z) (zeL (zcd s0a) hpz) ?_ ?_
 ·show (0::(S.zones:Int)::(S.nextRight:Int)::(S.nextBid:Int)::(Vbeman.row (S.lines.flatMap zdK)++(Vbeman.row (S.rights.flatMap zcO)++Vbeman.row (S.bids.flatMap zkm)))).length≤1000
  rw[List.length_cons,List.length_cons,List.length_cons,List.length_cons,List.length_append,List.length_append]
  show ((S.lines.flatMap zdK).length + 1 + (((S.rights.flatMap zcO).length + 1) + ((S.bids.flatMap zkm).length + 1))) + 1 + 1 + 1 + 1≤1000
  omega
 ·rw[zbG,←hrows]
  show _=some (HO.lst ((0::(S.zones:Int)::(S.nextRight:Int)::(S.nextBid:Int)::(Vbeman.row (S.lines.flatMap zdK)++(Vbeman.row (S.rights.flatMap zcO)++Vbeman.row (S.bids.flatMap zkm)))).map V.int))
  rw[List.map_cons,List.map_cons,List.map_cons,List.map_cons,List.map_append,List.map_append,List.append_assoc,List.append_assoc]
  rfl
def zmI (A:Ad):Sp:=λvs H Q _=>∃(h ga:Addr),vs=[.ref h,.ref ga]∧∃dx ll lr lb bl S g,HouseAt A H h dx ll lr lb bl S∧H ga=some (.lst (g.map V.int))∧(∀x∈g,x=0∨x=1)∧zlD A h ll lr lb bl H (Vbeman.onHouse S (.group g)).1 (Vbeman.onHouse S (.group g)).2 Q
abbrev zew:=top 91
abbrev zgA (P:Program) (w:World) (K:PySem.W.Frag) (mg:Str→Option Value) (base:Heap) (A:Ad):Prop:=FnI P w K mg base "tell_group" 5 ["house","marks"] (zmI A)
theorem ziW (F:Fun K "tell_group" "tell_group" zew f fd) (T:Txt K mg A) (zaT:zdz P w K mg base A) (zaZ:zfv P w K mg base A):FnOk P w K mg base CX0 5 f fd ["house","marks"] (zmI A):=by
 have sc:FnScope ["house","marks","group","mark","weight"] ["house","marks"] (zbK zew):=fsc
 refine F.ok sc (by rintro _ _ _ _ ⟨h,ga,rfl,_⟩;rfl) λcdv Ar outer s H vs Q E hr h=>?_
 obtain⟨h,ga,rfl,h⟩:=h
 refine⟨_,(zbC (zbU (zbO zeG (zbT zcc (by rfl) T.n_len (by decide +kernel) (zbB (pv 1) zbD)) (zbE (pv 0) rfl) (zbR _)) (zbF (zbJ (zbQ (zbB (zb6 T.i_NOT_FITTING (by rfl)) zbD)))) zbM) (zbC (zbP (i:=2) sc.nd rfl (by first | exact Or.inl rfl | exact Or.inr rfl) (zbT (zht rfl) (by rfl) T.n_sum (by decide +kernel) (zbB (zfF rfl sc.nd (zpQ (by rfl) T.n_zip (zbB (pv 1) (zbB (zkA T.r_WEIGHTS (by rfl)) zbD))) (zcr (own:=[("mark",3),("weight",4)]) (by rfl)) (λ_ _ _ _ _=>(zeE (Kf:=K) (n:=2) (by rfl) (by rfl) (zck (zbW (i:=3) sc.nd (by rfl) (by first | exact Or.inl rfl | exact Or.inr rfl) (by first | exact Or.inl rfl | exact Or.inr rfl)) (zck (zbW (i:=4) sc.nd (by rfl) (by first | exact Or.inl rfl | exact Or.inr rfl) (by first | exact Or.inl rfl | exact Or.inr rfl)) zd6)))) (λ_ _ _ _ _=>zcV) (λ_ _ _ _ _=>(zb2 zgr (pv 3) (pv 4)))) zbD))) (zbF (zbJ (zbQ (zbB zbN (zbB (zbH zaT (hr.mono (by decide)) (by rfl) (zbB (zbE (pv 0) rfl) (zbB (pv 2) zbD))) (zbB (zbH zaZ (hr.mono (by decide)) (by rfl) (zbB (zbE (pv 0) rfl) (zbB (pv 2) zbD))) zbD)))))))),?_⟩
 obtain⟨dx,ll,lr,lb,bl,S,g,HH,hg,h01,q⟩:=h
 have hh:=HH.obj
 have eo:=zoF S g
 refine⟨_,rfl,?_⟩
 refine⟨_,_,rfl,.inl ⟨_,SqL.of hg,rfl⟩,?_⟩
 refine⟨_,rfl,gH T hh rfl ⟨rfl,_,rfl,?_⟩⟩
 rw[List.length_map]
 refine zb9 (λh1=>?_) (λh1=>?_)
 ·exact zbZ q HH (Same.refl _) (ans:=[-4]) (by rw[eo,if_pos (neI h1)]) rfl
 have h1:g.length=S.zones:=zll h1
 rw[if_neg (by omega)] at eo
 have hz6:=HH.good.z6
 have hgl:=HH.good.ll
 have hgr:=HH.good.rl
 have ew:∀i:Nat,i < 6→([1,2,4,8,16,32].map V.int)[i]? = some (V.int ((2 ^ i:Nat):Int)):=λi hi=>by
  match i,hi with
  | 0,_ | 1,_ | 2,_ | 3,_ | 4,_ | 5,_=>rfl
 have ep:∀i:Nat,i < 6→((2 ^ i:Nat):Int) < 1073741824:=λi hi=>by
  match i,hi with
  | 0,_ | 1,_ | 2,_ | 3,_ | 4,_ | 5,_=>decide
 refine⟨_,rfl,?_⟩
 dsimp only
 refine znT (SqL.of hg) T.t_WEIGHTS (by rw[List.length_map,List.length_map];show g.length≤6;omega) (by rw[List.length_map];exact Nat.le_of_lt (zb0 (by omega))) (by decide) (((g.zip ((List.range g.length).map λi=>((2 ^ (0 + i):Nat):Int))).map λp=>p.1 * p.2).map V.int) (by rw[List.length_map,List.length_map,List.length_zip,List.length_map,List.length_range,List.length_map,Nat.min_self]) (λi x y z H2 Q' hx hy hz' s2 q'=>?_) (λD H2 hD s2 h2=>?_)
 ·rw[List.getElem?_map] at hx
  cases ei:g[i]? with
  | none=>rw[ei] at hx;cases hx
  | some v =>
   rw[ei] at hx
   cases hx
   have hi:i < g.length:=(List.getElem?_eq_some_iff.mp ei).1
   rw[ew i (by omega)] at hy
   cases hy
   rw[List.getElem?_map,List.getElem?_map,zix ei (y:=((2 ^ (0 + i):Nat):Int)) (by rw[List.getElem?_map,List.getElem?_range hi];rfl)] at hz'
   cases hz'
   have hp2:=ep i (by omega)
   refine⟨_,rfl,⟨_,rfl,?_⟩⟩
   refine⟨_,_,rfl,rfl,.inr ⟨by have:=Int.natCast_nonneg (2 ^ i);omega,by omega⟩,?_⟩
   have:=q' _ (Same.refl _)
   rw[show 0 + i=i from Nat.zero_add i] at this
   exact this
 ·refine⟨D,_,rfl,SqL.of h2,?_⟩
  rw[zdn,zj2 g 0 h01,Nat.pow_zero,Nat.one_mul]
  have HH2:=HH.same s2
  have hh2:=HH2.obj
  refine⟨_,rfl,gH T hh2 rfl ⟨_,rfl,?_⟩⟩
  refine⟨lr,Vbeman.groupOf g,rfl,S.rights,HH2.ra,HH.good.okR,by omega,λH3 s3=>?_⟩
  have HH3:=HH2.same s3
  have hh3:=HH3.obj
  refine⟨_,rfl,gH T hh3 rfl ⟨_,rfl,?_⟩⟩
  refine⟨ll,Vbeman.groupOf g,rfl,S.lines,HH3.la,HH.good.okL,by omega,λH4 s4=>?_⟩
  exact zbZ q HH ((s2.trans s3).trans s4) eo rfl
theorem zme (n:Nat) (h:2≤n) (f:Nat→Int):zmo (((Vbeman.groups n).map f).map V.int) (some 1) (some (-1))=(lookedAt n f).map V.int:=by
 have h4:4≤2 ^ n:=Nat.pow_le_pow_right (n:=2) (by decide) h
 unfold zmo lookedAt Vbeman.groups
 generalize 2 ^ n=N at h4 ⊢
 have el:(((List.range N).map f).map V.int).length=N:=by rw[List.length_map,List.length_map,List.length_range]
 rw[el]
 have e1:HT.sIx N 0 (some 1)=1:=by
  show min 1 N=1
  omega
 have e2:HT.sIx N N (some (-1))=N - 1:=by
  show ((-1:Int) + (N:Int)).toNat=N - 1
  omega
 rw[e1,e2]
 apply List.ext_getElem?
 intro i
 rw[List.getElem?_take,List.getElem?_drop,List.getElem?_map,List.getElem?_map,List.getElem?_map,List.getElem?_map]
 by_cases hi:i < N - 1 - 1
 ·rw[if_pos hi,List.getElem?_range (by omega),List.getElem?_range (by omega)]
  show some (V.int (f (1 + i)))=some (V.int (f (i + 1)))
  rw[Nat.add_comm]
 ·rw[if_neg hi,List.getElem?_eq_none (l:=List.range (N - 2)) (by rw[List.length_range];omega)]
  rfl
theorem zo1 {l:List Int} {m:Int} (h:m∈l):∃j:Nat,l[j]? = some m∧∀i y,i < j→l[i]? = some y→y≠m:=by
 induction l with
 | nil=>exact (List.not_mem_nil h).elim
 | cons x l ih =>
  by_cases e:x=m
  ·exact⟨0,by rw[e];rfl,λi y hi=>absurd hi (Nat.not_lt_zero _)⟩
  ·rcases List.mem_cons.mp h with z | z
   ·exact absurd z.symm e
   ·obtain⟨j,h1,h2⟩:=ih z
    refine⟨j + 1,h1,λi y hi hy=>?_⟩
    cases i with
    | zero=>have hy:some x=some y:=hy;cases hy;exact e
    | succ i=>exact h2 i y (by omega) hy
abbrev zet:=top 92
abbrev zgx (P:Program) (w:World) (K:PySem.W.Frag) (mg:Str→Option Value) (base:Heap) (A:Ad):Prop:=FnI P w K mg base "tell_tight" 6 ["house"] (zep A .tight)
theorem ziT (F:Fun K "tell_tight" "tell_tight" zet f fd) (T:Txt K mg A) (za6:zct P w K mg base A) (zas:zdS P w K mg base A) (zaG:zkV P w K mg base A):FnOk P w K mg base CX0 6 f fd ["house"] (zep A .tight):=by
 have sc:FnScope ["house","slacks","looked_at","least","group","marks","zone"] ["house"] (zbK zet):=fsc
 refine F.ok sc (by rintro _ _ _ _ ⟨h,rfl,_⟩;rfl) λcdv Ar outer s H vs Q E hr h=>?_
 obtain⟨h,rfl,h⟩:=h
 refine⟨_,(zbC (zbP (i:=1) sc.nd rfl (by first | exact Or.inl rfl | exact Or.inr rfl) (zbH za6 (hr.mono (by decide)) (by rfl) (zbB (zbE (pv 0) rfl) (zbB (zbE (pv 0) rfl) (zbB (zbE (pv 0) rfl) zbD))))) (zbC (zbP (i:=2) sc.nd rfl (by first | exact Or.inl rfl | exact Or.inr rfl) (zlg zmM (pv 1) (ziM zbN) (ziM (zrX zqF zbN)))) (zbC (zbP (i:=3) sc.nd rfl (by first | exact Or.inl rfl | exact Or.inr rfl) (zbT (zlx rfl) (by rfl) T.n_min (by decide +kernel) (zbB (pv 2) zbD))) (zbC (zbP (i:=4) sc.nd rfl (by first | exact Or.inl rfl | exact Or.inr rfl) (zb2 zcK zbN (zeF PySem.F.plainAttrs_list PySem.F.slot_list_index PySem.F.type_list_index zoR (pv 2) (zbB (pv 3) zbD)))) (zbC (zld (i:=5) rfl sc.nd rfl rfl (zmz rfl rfl rfl rfl) (zjE (by rfl) T.n_range (zbB (zbE (pv 0) rfl) zbD)) (zcr (own:=[("zone",6)]) (by rfl)) (λ_ _ _ _ _=>(zbW (i:=6) sc.nd (by rfl) (by first | exact Or.inl rfl | exact Or.inr rfl) (by first | exact Or.inl rfl | exact Or.inr rfl))) (λ_ _ _ _ _=>zcV) (λ_ _ _ _ _=>(ziN (zcy (zbH zaG (hr.mono (by decide)) (by rfl) (zbB (pv 4) (zbB (pv 6) zbD)))) zbN zbN))) (zbF (zbJ (zb2 zdw (zbQ (zbB zbN (zbB (pv 3) zbD))) (zbH zas (hr.mono (by decide)) (by rfl) (zbB (pv 5) zbD)))))))))),?_⟩
 obtain⟨dx,ll,lr,lb,bl,S,HH,q⟩:=h
 have hh:=HH.obj
 rw[zoy] at q
 have hz2:=HH.good.z2
 have hz6:=HH.good.z6
 have h4:4≤2 ^ S.zones:=Nat.pow_le_pow_right (n:=2) (by decide) hz2
 refine⟨_,rfl,gH T hh rfl ⟨_,rfl,gH T hh rfl ⟨_,rfl,gH T hh rfl ?_⟩⟩⟩
 refine⟨S.zones,ll,lr,rfl,_,_,HH.good.z6,HH.net,λH1 p1 s1 hp1 h1=>?_⟩
 have ecut:=zme S.zones hz2 λX=>Vbeman.slack X S.lines S.rights
 refine⟨_,rfl,?_⟩
 refine⟨_,rfl,_,rfl,_,rfl,p1,_,rfl,SqL.of h1,λp2 hp2=>?_⟩
 have s2:Same H1 (upd H1 p2 (.lst (zmo ((zcJ S.zones S.lines S.rights).map V.int) (some 1) (some (-1))))):=Same.upd hp2
 have h2:(upd H1 p2 (.lst (zmo ((zcJ S.zones S.lines S.rights).map V.int) (some 1) (some (-1))))) p2=some (.lst ((lookedAt S.zones λX=>Vbeman.slack X S.lines S.rights).map V.int)):=by
  rw[zbG]
  exact congrArg (λl=>some (HO.lst l)) ecut
 generalize (upd H1 p2 (.lst (zmo ((zcJ S.zones S.lines S.rights).map V.int) (some 1) (some (-1)))))=H2 at s2 h2 ⊢
 have hlen:(lookedAt S.zones λX=>Vbeman.slack X S.lines S.rights).length=2 ^ S.zones - 2:=by
  unfold lookedAt
  rw[List.length_map,List.length_range]
 refine⟨_,rfl,?_⟩
 refine⟨p2,_,rfl,SqL.of h2,by omega,λm hm1 hm2=>?_⟩
 obtain⟨j,hj1,hj2⟩:=zo1 hm1
 have et:=zof hz2 hj1 hm2 hj2
 rw[et] at q
 refine⟨_,rfl,.inl ⟨rfl,_,SqL.of h2⟩,?_⟩
 refine⟨_,rfl,?_⟩
 refine⟨p2,_,_,j,V.int m,rfl,rfl,SqL.of h2,rfl,?_,by rw[List.getElem?_map,hj1];rfl,beq_self_eq_true m,λi z hi hz=>?_,?_⟩
 ·rw[List.all_map]
  exact List.all_eq_true.mpr λ_ _=>rfl
 ·rw[List.getElem?_map] at hz
  cases e:(lookedAt S.zones λX=>Vbeman.slack X S.lines S.rights)[i]? with
  | none=>rw[e] at hz;cases hz
  | some y =>
   rw[e] at hz
   cases hz
   exact beq_false_of_ne (hj2 i y hi e)
 have s02:=s1.trans s2
 have HH2:=HH.same s02
 have hh2:=HH2.obj
 have em:(Vbeman.members S.zones (j + 1)).length=S.zones:=by
  unfold Vbeman.members
  rw[List.length_map,List.length_range]
 refine⟨_,_,rfl,rfl,?_⟩
 refine⟨_,rfl,gH T hh2 rfl ?_⟩
 refine⟨_,rfl,by omega,by omega,?_⟩
 dsimp only
 refine zil ((Vbeman.members S.zones (j + 1)).map V.int) (by rw[List.length_map,em];rfl) (Nat.le_trans (show _≤6 from hz6) (by decide)) (λi y H3 Q' hi hy s3 q'=>?_) (λD H3 hD s3 h3=>?_)
 ·have hi:i < S.zones:=hi
  have hy':(Vbeman.members S.zones (j + 1))[i]? = some (Vbeman.bit ((j + 1).testBit i)):=by
   unfold Vbeman.members
   rw[List.getElem?_map,List.getElem?_range hi]
   rfl
  rw[List.getElem?_map,hy'] at hy
  cases hy
  refine⟨_,rfl,⟨_,rfl,?_⟩⟩
  refine⟨j + 1,i,?_,by omega,_,rfl,?_⟩
  ·show [V.int (1 + (j:Int)),V.int (0 + (i:Int))]=_
   rw[Int.zero_add,Int.add_comm]
   rfl
  cases e:(j + 1).testBit i with
  | true=>rw[e] at q';exact q' _ (Same.refl _)
  | false=>rw[e] at q';exact q' _ (Same.refl _)
 ·refine⟨_,rfl,?_⟩
  refine⟨by show 2≤sizeLine;decide,λp hp=>?_⟩
  refine⟨_,rfl,?_⟩
  have s03:=s02.trans s3
  exact zhs (xs:=[0,m]) q (HH.same s03) (zcd s03) h3 (by omega) (show 2≤90 by decide) rfl rfl hp
end
end Z
namespace Z
open PySem PySem.Spec PyProof.Rows L2
open Vbeman (Line Right House Bid)
def zca (p:Int) (xs:List Int) (rows:List (List Int)):Bool:=((namesOf p).zip xs).all zcG && ((rowNames p).zip rows).all ziL
theorem within_iff {a lo hi:Int}:Vbeman.within a lo hi=true↔lo≤a∧a≤hi:=by
 unfold Vbeman.within
 rw[Bool.and_eq_true,decide_eq_true_iff,decide_eq_true_iff]
theorem zc9 {call:List (List Int)} {b:Bool} {c:Vbeman.Call} {R:Vbeman.Call→Prop} (hd:Vbeman.decode call=if b=true then some c else none) (hR:b=true→R c):(b=false→Vbeman.decode call=none)∧(b=true→∃c,Vbeman.decode call=some c∧R c) :=
 ⟨λh=>by rw[hd,h];rfl,λh=>⟨c,by rw[hd,h];rfl,hR h⟩⟩
theorem zcm {a:Int} (h:0≤a):((a.toNat:Nat):Int)=a:=Int.toNat_of_nonneg h
theorem zpC {h:Int} (h1:0≤h∧h≤1):Vbeman.bit (h == 1)=h:=by
 unfold Vbeman.bit
 have:h=0∨h=1:=by omega
 rcases this with rfl | rfl <;> rfl
theorem zmY {p:List Int} (h:Vbeman.prices p=true):zeP p:=λx hx=>by
 unfold Vbeman.prices Vbeman.all at h
 rw[Bool.and_eq_true] at h
 have:=List.all_eq_true.mp h.2 x hx
 exact within_iff.mp this
theorem znp {g:List Int} (h:(decide (g.length≤64) && Vbeman.all g 0 1)=true):∀x∈g,x=0∨x=1:=λx hx=>by
 unfold Vbeman.all at h
 rw[Bool.and_eq_true] at h
 have:=within_iff.mp (List.all_eq_true.mp h.2 x hx)
 omega
def zrn (nums:List (Str×Int)) (c:Vbeman.Call):Prop:=∃n:Nat,nums=([("zones",(n:Int))]:List (Str×Int))∧2≤n∧n≤6∧c=.open_ n
def zo9 (p:Int) (nums:List (Str×Int)) (c:Vbeman.Call):Prop:=(p=13∧zir .bid nums c)∨(p=14∧znZ nums c)∨(p=15∧c=.award)
def zqo (p:Int) (nums:List (Str×Int)) (rows:List (List Int)) (c:Vbeman.Call):Prop:=(p=16∧∃pr fl,rows=[pr,fl]∧zeP pr∧c=.settle pr fl)∨(p=17∧∃pr,rows=[pr]∧zeP pr∧c=.payout pr) ∨
 (p=18∧∃(k:Nat) (pr:List Int),nums=([("right",(k:Int))]:List (Str×Int))∧rows=[pr]∧c=.value k pr)∨(p=19∧∃g,rows=[g]∧(∀x∈g,x=0∨x=1)∧c=.group g)
def zo8 (p:Int) (nums:List (Str×Int)) (c:Vbeman.Call):Prop:=(p=20∧c=.tight)∨(p=21∧ziq .money nums c)∨(p=22∧zn0 nums c)∨(p=23∧c=.house)∨(p=24∧ziq .rights nums c)∨(p=25∧c=.state)
def zlC (p:Int) (nums:List (Str×Int)) (c:Vbeman.Call):Prop:=(p=1∧zqr nums c)∨(p=2∧zio .rooms nums c)∨(p=3∧zio .outage nums c)
def zji (p:Int) (nums:List (Str×Int)) (c:Vbeman.Call):Prop:=(p=4∧zir .grant nums c)∨(p=5∧zqq nums c)∨(p=6∧zqu nums c)∨(p=7∧zqs nums c)
def zjh (p:Int) (nums:List (Str×Int)) (c:Vbeman.Call):Prop:=(p=8∧zqp nums c)∨(p=9∧zqt nums c)∨(p=10∧zis .chain nums c)∨(p=11∧zsb nums c)∨(p=12∧zis .annul nums c)
def zi4:Vbeman.Call→Bool
 | .open_ _=>false
 | _=>true
def RAll (p:Int) (nums:List (Str×Int)) (rows:List (List Int)) (c:Vbeman.Call):Prop :=
 (p=0∧zrn nums c)∨(zi4 c=true∧(zlC p nums c∨zji p nums c∨zjh p nums c∨zo9 p nums c∨zqo p nums rows c∨zo8 p nums c))
abbrev TC (p:Int) (xs:List Int) (rows:List (List Int)):Prop:=(zca p xs rows=false→Vbeman.decode ((p::xs)::rows)=none)∧(zca p xs rows=true→∃c,Vbeman.decode ((p::xs)::rows)=some c∧RAll p ((namesOf p).zip xs) rows c)
theorem tc_0 (a:Int):TC 0 [a] []:=by
 have ea:zca 0 [a] []=((Vbeman.within a 2 6 && (true)) && true):=rfl
 have hd:Vbeman.decode [[0,a]]=if zca 0 [a] []=true then some (.open_ a.toNat) else none:=by
  rw[ea,Bool.and_true,Bool.and_true];rfl
 refine zc9 hd λh=>?_
 rw[ea] at h
 have h:((Vbeman.within a 2 6 && (true)) && true)=true:=h
 simp only [Bool.and_eq_true,within_iff] at h
 obtain⟨⟨h1,_⟩,_⟩:=h
 exact .inl ⟨rfl,⟨a.toNat,by rw[zcm (a:=a) (by omega)];rfl,by omega,by omega,rfl⟩⟩
theorem tc_1 (a:Int) (b:Int) (c:Int) (d:Int):TC 1 [a,b,c,d] []:=by
 have ea:zca 1 [a,b,c,d] []=((Vbeman.isZone a && (Vbeman.isZone b && (Vbeman.isRoom c && (Vbeman.isRoom d && (true))))) && true):=rfl
 have hd:Vbeman.decode [[1,a,b,c,d]]=if zca 1 [a,b,c,d] []=true then some (.line a.toNat b.toNat c d) else none:=by
  rw[ea,Bool.and_true,Bool.and_true];rfl
 refine zc9 hd λh=>?_
 rw[ea] at h
 have h:((Vbeman.within a 0 5 && (Vbeman.within b 0 5 && (Vbeman.within c 0 1000000000 && (Vbeman.within d 0 1000000000 && (true))))) && true)=true:=h
 simp only [Bool.and_eq_true,within_iff] at h
 obtain⟨⟨h1,h2,h3,h4,_⟩,_⟩:=h
 exact .inr ⟨rfl,.inl (.inl (⟨rfl,⟨a.toNat,b.toNat,c,d,by rw[zcm (a:=a) (by omega),zcm (a:=b) (by omega)];rfl,rfl⟩⟩))⟩
theorem tc_2 (a:Int) (b:Int) (c:Int):TC 2 [a,b,c] []:=by
 have ea:zca 2 [a,b,c] []=((Vbeman.isLine a && (Vbeman.isRoom b && (Vbeman.isRoom c && (true)))) && true):=rfl
 have hd:Vbeman.decode [[2,a,b,c]]=if zca 2 [a,b,c] []=true then some (.rooms a.toNat b c) else none:=by
  rw[ea,Bool.and_true,Bool.and_true];rfl
 refine zc9 hd λh=>?_
 rw[ea] at h
 have h:((Vbeman.within a 0 9 && (Vbeman.within b 0 1000000000 && (Vbeman.within c 0 1000000000 && (true)))) && true)=true:=h
 simp only [Bool.and_eq_true,within_iff] at h
 obtain⟨⟨h1,h2,h3,_⟩,_⟩:=h
 exact .inr ⟨rfl,.inl (.inr (.inl (⟨rfl,⟨a.toNat,b,c,by rw[zcm (a:=a) (by omega)];rfl,rfl⟩⟩)))⟩
theorem tc_3 (a:Int) (b:Int) (c:Int):TC 3 [a,b,c] []:=by
 have ea:zca 3 [a,b,c] []=((Vbeman.isLine a && (Vbeman.isRoom b && (Vbeman.isRoom c && (true)))) && true):=rfl
 have hd:Vbeman.decode [[3,a,b,c]]=if zca 3 [a,b,c] []=true then some (.outage a.toNat b c) else none:=by
  rw[ea,Bool.and_true,Bool.and_true];rfl
 refine zc9 hd λh=>?_
 rw[ea] at h
 have h:((Vbeman.within a 0 9 && (Vbeman.within b 0 1000000000 && (Vbeman.within c 0 1000000000 && (true)))) && true)=true:=h
 simp only [Bool.and_eq_true,within_iff] at h
 obtain⟨⟨h1,h2,h3,_⟩,_⟩:=h
 exact .inr ⟨rfl,.inl (.inr (.inr (⟨rfl,⟨a.toNat,b,c,by rw[zcm (a:=a) (by omega)];rfl,rfl⟩⟩)))⟩
theorem tc_4 (a:Int) (b:Int) (c:Int) (d:Int) (e:Int) (f:Int):TC 4 [a,b,c,d,e,f] []:=by
 have ea:zca 4 [a,b,c,d,e,f] []=((Vbeman.isOwner a && (Vbeman.isZone b && (Vbeman.isZone c && (Vbeman.within d 0 1 && (Vbeman.isAmount e && (Vbeman.isPrice f && (true))))))) && true):=rfl
 have hd:Vbeman.decode [[4,a,b,c,d,e,f]]=if zca 4 [a,b,c,d,e,f] []=true then some (.grant a.toNat b.toNat c.toNat (d == 1) e f) else none:=by
  rw[ea,Bool.and_true,Bool.and_true];rfl
 refine zc9 hd λh=>?_
 rw[ea] at h
 have h:((Vbeman.within a 0 7 && (Vbeman.within b 0 5 && (Vbeman.within c 0 5 && (Vbeman.within d 0 1 && (Vbeman.within e 1 1000000000 && (Vbeman.within f (-1000000) 1000000 && (true))))))) && true)=true:=h
 simp only [Bool.and_eq_true,within_iff] at h
 obtain⟨⟨h1,h2,h3,h4,h5,h6,_⟩,_⟩:=h
 exact .inr ⟨rfl,.inr (.inl (.inl (⟨rfl,⟨a.toNat,b.toNat,c.toNat,d == 1,e,f,by rw[zcm (a:=a) (by omega),zcm (a:=b) (by omega),zcm (a:=c) (by omega),zpC (h:=d) h4];rfl,by omega,h5,h6,rfl⟩⟩)))⟩
theorem tc_5 (a:Int) (b:Int):TC 5 [a,b] []:=by
 have ea:zca 5 [a,b] []=((Vbeman.isZone a && (Vbeman.isZone b && (true))) && true):=rfl
 have hd:Vbeman.decode [[5,a,b]]=if zca 5 [a,b] []=true then some (.most a.toNat b.toNat) else none:=by
  rw[ea,Bool.and_true,Bool.and_true];rfl
 refine zc9 hd λh=>?_
 rw[ea] at h
 have h:((Vbeman.within a 0 5 && (Vbeman.within b 0 5 && (true))) && true)=true:=h
 simp only [Bool.and_eq_true,within_iff] at h
 obtain⟨⟨h1,h2,_⟩,_⟩:=h
 exact .inr ⟨rfl,.inr (.inl (.inr (.inl (⟨rfl,⟨a.toNat,b.toNat,by rw[zcm (a:=a) (by omega),zcm (a:=b) (by omega)];rfl,rfl⟩⟩))))⟩
theorem tc_6 (a:Int) (b:Int):TC 6 [a,b] []:=by
 have ea:zca 6 [a,b] []=((Vbeman.isNumber a && (Vbeman.isAmount b && (true))) && true):=rfl
 have hd:Vbeman.decode [[6,a,b]]=if zca 6 [a,b] []=true then some (.back a.toNat b) else none:=by
  rw[ea,Bool.and_true,Bool.and_true];rfl
 refine zc9 hd λh=>?_
 rw[ea] at h
 have h:((Vbeman.within a 1 1000000000 && (Vbeman.within b 1 1000000000 && (true))) && true)=true:=h
 simp only [Bool.and_eq_true,within_iff] at h
 obtain⟨⟨h1,h2,_⟩,_⟩:=h
 exact .inr ⟨rfl,.inr (.inl (.inr (.inr (.inl (⟨rfl,⟨a.toNat,b,by rw[zcm (a:=a) (by omega)];rfl,h2.1,rfl⟩⟩)))))⟩
theorem tc_7 (a:Int):TC 7 [a] []:=by
 have ea:zca 7 [a] []=((Vbeman.isNumber a && (true)) && true):=rfl
 have hd:Vbeman.decode [[7,a]]=if zca 7 [a] []=true then some (.keep a.toNat) else none:=by
  rw[ea,Bool.and_true,Bool.and_true];rfl
 refine zc9 hd λh=>?_
 rw[ea] at h
 have h:((Vbeman.within a 1 1000000000 && (true)) && true)=true:=h
 simp only [Bool.and_eq_true,within_iff] at h
 obtain⟨⟨h1,_⟩,_⟩:=h
 exact .inr ⟨rfl,.inr (.inl (.inr (.inr (.inr (⟨rfl,⟨a.toNat,by rw[zcm (a:=a) (by omega)];rfl,rfl⟩⟩)))))⟩
theorem tc_8 (a:Int) (b:Int) (c:Int) (d:Int):TC 8 [a,b,c,d] []:=by
 have ea:zca 8 [a,b,c,d] []=((Vbeman.isNumber a && (Vbeman.isOwner b && (Vbeman.isAmount c && (Vbeman.isPrice d && (true))))) && true):=rfl
 have hd:Vbeman.decode [[8,a,b,c,d]]=if zca 8 [a,b,c,d] []=true then some (.pass a.toNat b.toNat c d) else none:=by
  rw[ea,Bool.and_true,Bool.and_true];rfl
 refine zc9 hd λh=>?_
 rw[ea] at h
 have h:((Vbeman.within a 1 1000000000 && (Vbeman.within b 0 7 && (Vbeman.within c 1 1000000000 && (Vbeman.within d (-1000000) 1000000 && (true))))) && true)=true:=h
 simp only [Bool.and_eq_true,within_iff] at h
 obtain⟨⟨h1,h2,h3,h4,_⟩,_⟩:=h
 exact .inr ⟨rfl,.inr (.inr (.inl (.inl (⟨rfl,⟨a.toNat,b.toNat,c,d,by rw[zcm (a:=a) (by omega),zcm (a:=b) (by omega)];rfl,by omega,h3,h4,rfl⟩⟩))))⟩
theorem tc_9 (a:Int) (b:Int):TC 9 [a,b] []:=by
 have ea:zca 9 [a,b] []=((Vbeman.isNumber a && (Vbeman.isNumber b && (true))) && true):=rfl
 have hd:Vbeman.decode [[9,a,b]]=if zca 9 [a,b] []=true then some (.join a.toNat b.toNat) else none:=by
  rw[ea,Bool.and_true,Bool.and_true];rfl
 refine zc9 hd λh=>?_
 rw[ea] at h
 have h:((Vbeman.within a 1 1000000000 && (Vbeman.within b 1 1000000000 && (true))) && true)=true:=h
 simp only [Bool.and_eq_true,within_iff] at h
 obtain⟨⟨h1,h2,_⟩,_⟩:=h
 exact .inr ⟨rfl,.inr (.inr (.inl (.inr (.inl (⟨rfl,⟨a.toNat,b.toNat,by rw[zcm (a:=a) (by omega),zcm (a:=b) (by omega)];rfl,rfl⟩⟩)))))⟩
theorem zrJ (a:Int) (b:Int) (c:Int):TC 10 [a,b,c] []:=by
 have ea:zca 10 [a,b,c] []=((Vbeman.isNumber a && (Vbeman.isNumber b && (Vbeman.isAmount c && (true)))) && true):=rfl
 have hd:Vbeman.decode [[10,a,b,c]]=if zca 10 [a,b,c] []=true then some (.chain a.toNat b.toNat c) else none:=by
  rw[ea,Bool.and_true,Bool.and_true];rfl
 refine zc9 hd λh=>?_
 rw[ea] at h
 have h:((Vbeman.within a 1 1000000000 && (Vbeman.within b 1 1000000000 && (Vbeman.within c 1 1000000000 && (true)))) && true)=true:=h
 simp only [Bool.and_eq_true,within_iff] at h
 obtain⟨⟨h1,h2,h3,_⟩,_⟩:=h
 exact .inr ⟨rfl,.inr (.inr (.inl (.inr (.inr (.inl (⟨rfl,⟨a.toNat,b.toNat,c,by rw[zcm (a:=a) (by omega),zcm (a:=b) (by omega)];rfl,h3,rfl⟩⟩))))))⟩
theorem zrI (a:Int) (b:Int):TC 11 [a,b] []:=by
 have ea:zca 11 [a,b] []=((Vbeman.isNumber a && (Vbeman.isZone b && (true))) && true):=rfl
 have hd:Vbeman.decode [[11,a,b]]=if zca 11 [a,b] []=true then some (.via a.toNat b.toNat) else none:=by
  rw[ea,Bool.and_true,Bool.and_true];rfl
 refine zc9 hd λh=>?_
 rw[ea] at h
 have h:((Vbeman.within a 1 1000000000 && (Vbeman.within b 0 5 && (true))) && true)=true:=h
 simp only [Bool.and_eq_true,within_iff] at h
 obtain⟨⟨h1,h2,_⟩,_⟩:=h
 exact .inr ⟨rfl,.inr (.inr (.inl (.inr (.inr (.inr (.inl (⟨rfl,⟨a.toNat,b.toNat,by rw[zcm (a:=a) (by omega),zcm (a:=b) (by omega)];rfl,rfl⟩⟩)))))))⟩
theorem zrH (a:Int) (b:Int) (c:Int):TC 12 [a,b,c] []:=by
 have ea:zca 12 [a,b,c] []=((Vbeman.isNumber a && (Vbeman.isNumber b && (Vbeman.isAmount c && (true)))) && true):=rfl
 have hd:Vbeman.decode [[12,a,b,c]]=if zca 12 [a,b,c] []=true then some (.annul a.toNat b.toNat c) else none:=by
  rw[ea,Bool.and_true,Bool.and_true];rfl
 refine zc9 hd λh=>?_
 rw[ea] at h
 have h:((Vbeman.within a 1 1000000000 && (Vbeman.within b 1 1000000000 && (Vbeman.within c 1 1000000000 && (true)))) && true)=true:=h
 simp only [Bool.and_eq_true,within_iff] at h
 obtain⟨⟨h1,h2,h3,_⟩,_⟩:=h
 exact .inr ⟨rfl,.inr (.inr (.inl (.inr (.inr (.inr (.inr (⟨rfl,⟨a.toNat,b.toNat,c,by rw[zcm (a:=a) (by omega),zcm (a:=b) (by omega)];rfl,h3,rfl⟩⟩)))))))⟩
theorem zrG (a:Int) (b:Int) (c:Int) (d:Int) (e:Int) (f:Int):TC 13 [a,b,c,d,e,f] []:=by
 have ea:zca 13 [a,b,c,d,e,f] []=((Vbeman.isOwner a && (Vbeman.isZone b && (Vbeman.isZone c && (Vbeman.within d 0 1 && (Vbeman.isAmount e && (Vbeman.isPrice f && (true))))))) && true):=rfl
 have hd:Vbeman.decode [[13,a,b,c,d,e,f]]=if zca 13 [a,b,c,d,e,f] []=true then some (.bid a.toNat b.toNat c.toNat (d == 1) e f) else none:=by
  rw[ea,Bool.and_true,Bool.and_true];rfl
 refine zc9 hd λh=>?_
 rw[ea] at h
 have h:((Vbeman.within a 0 7 && (Vbeman.within b 0 5 && (Vbeman.within c 0 5 && (Vbeman.within d 0 1 && (Vbeman.within e 1 1000000000 && (Vbeman.within f (-1000000) 1000000 && (true))))))) && true)=true:=h
 simp only [Bool.and_eq_true,within_iff] at h
 obtain⟨⟨h1,h2,h3,h4,h5,h6,_⟩,_⟩:=h
 exact .inr ⟨rfl,.inr (.inr (.inr (.inl (.inl (⟨rfl,⟨a.toNat,b.toNat,c.toNat,d == 1,e,f,by rw[zcm (a:=a) (by omega),zcm (a:=b) (by omega),zcm (a:=c) (by omega),zpC (h:=d) h4];rfl,by omega,h5,h6,rfl⟩⟩)))))⟩
theorem zrF (a:Int):TC 14 [a] []:=by
 have ea:zca 14 [a] []=((Vbeman.isNumber a && (true)) && true):=rfl
 have hd:Vbeman.decode [[14,a]]=if zca 14 [a] []=true then some (.unbid a.toNat) else none:=by
  rw[ea,Bool.and_true,Bool.and_true];rfl
 refine zc9 hd λh=>?_
 rw[ea] at h
 have h:((Vbeman.within a 1 1000000000 && (true)) && true)=true:=h
 simp only [Bool.and_eq_true,within_iff] at h
 obtain⟨⟨h1,_⟩,_⟩:=h
 exact .inr ⟨rfl,.inr (.inr (.inr (.inl (.inr (.inl (⟨rfl,⟨a.toNat,by rw[zcm (a:=a) (by omega)];rfl,rfl⟩⟩))))))⟩
theorem zrE:TC 15 [] []:=by
 have ea:zca 15 [] []=((true) && true):=rfl
 have hd:Vbeman.decode [[15]]=if zca 15 [] []=true then some (.award) else none:=by
  rfl
 refine zc9 hd λh=>?_
 exact .inr ⟨rfl,.inr (.inr (.inr (.inl (.inr (.inr (⟨rfl,rfl⟩))))))⟩
theorem zrz:TC 20 [] []:=by
 have ea:zca 20 [] []=((true) && true):=rfl
 have hd:Vbeman.decode [[20]]=if zca 20 [] []=true then some (.tight) else none:=by
  rfl
 refine zc9 hd λh=>?_
 exact .inr ⟨rfl,.inr (.inr (.inr (.inr (.inr (.inl (⟨rfl,rfl⟩))))))⟩
theorem zry (a:Int):TC 21 [a] []:=by
 have ea:zca 21 [a] []=((Vbeman.isOwner a && (true)) && true):=rfl
 have hd:Vbeman.decode [[21,a]]=if zca 21 [a] []=true then some (.money a.toNat) else none:=by
  rw[ea,Bool.and_true,Bool.and_true];rfl
 refine zc9 hd λh=>?_
 rw[ea] at h
 have h:((Vbeman.within a 0 7 && (true)) && true)=true:=h
 simp only [Bool.and_eq_true,within_iff] at h
 obtain⟨⟨h1,_⟩,_⟩:=h
 exact .inr ⟨rfl,.inr (.inr (.inr (.inr (.inr (.inr (.inl (⟨rfl,⟨a.toNat,by rw[zcm (a:=a) (by omega)];rfl,by omega,rfl⟩⟩)))))))⟩
theorem zrx (a:Int) (b:Int):TC 22 [a,b] []:=by
 have ea:zca 22 [a,b] []=((Vbeman.isOwner a && (Vbeman.within b (-1000000000000000) 1000000000000000 && (true))) && true):=rfl
 have hd:Vbeman.decode [[22,a,b]]=if zca 22 [a,b] []=true then some (.payin a.toNat b) else none:=by
  rw[ea,Bool.and_true,Bool.and_true];rfl
 refine zc9 hd λh=>?_
 rw[ea] at h
 have h:((Vbeman.within a 0 7 && (Vbeman.within b (-1000000000000000) 1000000000000000 && (true))) && true)=true:=h
 simp only [Bool.and_eq_true,within_iff] at h
 obtain⟨⟨h1,h2,_⟩,_⟩:=h
 exact .inr ⟨rfl,.inr (.inr (.inr (.inr (.inr (.inr (.inr (.inl (⟨rfl,⟨a.toNat,b,by rw[zcm (a:=a) (by omega)];rfl,by omega,rfl⟩⟩))))))))⟩
theorem zrw:TC 23 [] []:=by
 have ea:zca 23 [] []=((true) && true):=rfl
 have hd:Vbeman.decode [[23]]=if zca 23 [] []=true then some (.house) else none:=by
  rfl
 refine zc9 hd λh=>?_
 exact .inr ⟨rfl,.inr (.inr (.inr (.inr (.inr (.inr (.inr (.inr (.inl (⟨rfl,rfl⟩)))))))))⟩
theorem zrv (a:Int):TC 24 [a] []:=by
 have ea:zca 24 [a] []=((Vbeman.isOwner a && (true)) && true):=rfl
 have hd:Vbeman.decode [[24,a]]=if zca 24 [a] []=true then some (.rights a.toNat) else none:=by
  rw[ea,Bool.and_true,Bool.and_true];rfl
 refine zc9 hd λh=>?_
 rw[ea] at h
 have h:((Vbeman.within a 0 7 && (true)) && true)=true:=h
 simp only [Bool.and_eq_true,within_iff] at h
 obtain⟨⟨h1,_⟩,_⟩:=h
 exact .inr ⟨rfl,.inr (.inr (.inr (.inr (.inr (.inr (.inr (.inr (.inr (.inl (⟨rfl,⟨a.toNat,by rw[zcm (a:=a) (by omega)];rfl,by omega,rfl⟩⟩))))))))))⟩
theorem zru:TC 25 [] []:=by
 have ea:zca 25 [] []=((true) && true):=rfl
 have hd:Vbeman.decode [[25]]=if zca 25 [] []=true then some (.state) else none:=by
  rfl
 refine zc9 hd λh=>?_
 exact .inr ⟨rfl,.inr (.inr (.inr (.inr (.inr (.inr (.inr (.inr (.inr (.inr (⟨rfl,rfl⟩))))))))))⟩
theorem zrD (p f:List Int):TC 16 [] [p,f]:=by
 have e:zca 16 [] [p,f]=(Vbeman.prices p && ((decide (f.length≤64) && Vbeman.all f (-Vbeman.BIG) Vbeman.BIG) && true)):=rfl
 have hd:Vbeman.decode [[16],p,f]=if zca 16 [] [p,f]=true then some (.settle p f) else none:=by
  rw[e,Bool.and_true];rfl
 refine zc9 hd λh=>?_
 rw[e,Bool.and_eq_true] at h
 exact .inr ⟨rfl,.inr (.inr (.inr (.inr (.inl (.inl (⟨rfl,p,f,rfl,zmY h.1,rfl⟩))))))⟩
theorem zrC (p:List Int):TC 17 [] [p]:=by
 have e:zca 17 [] [p]=(Vbeman.prices p && true):=rfl
 have hd:Vbeman.decode [[17],p]=if zca 17 [] [p]=true then some (.payout p) else none:=by
  rw[e,Bool.and_true];rfl
 refine zc9 hd λh=>?_
 rw[e,Bool.and_true] at h
 exact .inr ⟨rfl,.inr (.inr (.inr (.inr (.inl (.inr (.inl (⟨rfl,p,rfl,zmY h,rfl⟩)))))))⟩
theorem zrB (k:Int) (p:List Int):TC 18 [k] [p]:=by
 have e:zca 18 [k] [p]=((Vbeman.isNumber k && true) && (Vbeman.prices p && true)):=rfl
 have hd:Vbeman.decode [[18,k],p]=if zca 18 [k] [p]=true then some (.value k.toNat p) else none:=by
  rw[e,Bool.and_true,Bool.and_true];rfl
 refine zc9 hd λh=>?_
 rw[e,Bool.and_true,Bool.and_true,Bool.and_eq_true] at h
 have h1:Vbeman.within k 1 1000000000=true:=h.1
 rw[within_iff] at h1
 exact .inr ⟨rfl,.inr (.inr (.inr (.inr (.inl (.inr (.inr (.inl (⟨rfl,k.toNat,p,by rw[zcm (a:=k) (by omega)];rfl,rfl,rfl⟩))))))))⟩
theorem zrA (g:List Int):TC 19 [] [g]:=by
 have e:zca 19 [] [g]=((decide (g.length≤64) && Vbeman.all g 0 1) && true):=rfl
 have hd:Vbeman.decode [[19],g]=if zca 19 [] [g]=true then some (.group g) else none:=by
  rw[e,Bool.and_true];rfl
 refine zc9 hd λh=>?_
 rw[e,Bool.and_true] at h
 exact .inr ⟨rfl,.inr (.inr (.inr (.inr (.inl (.inr (.inr (.inr (⟨rfl,g,rfl,znp h,rfl⟩))))))))⟩
theorem zcQ {α:Type} {l:List α} (h:l.length=0):l=[]:=List.length_eq_zero_iff.mp h
theorem zcl {α:Type} {l:List α} {n:Nat} (h:l.length=n + 1):∃a t,l=a::t∧t.length=n:=by
 cases l with
 | nil=>cases h
 | cons a t=>exact⟨a,t,rfl,by simpa using h⟩
theorem zpd:∀{i:Nat},i < 26→∀{xs:List Int} {rows:List (List Int)},xs.length=(namesOf (i:Int)).length→rows.length=(rowNames (i:Int)).length→TC (i:Int) xs rows∧PyVbeman.whole (((i:Int)::xs)::rows)=((i:Int)::xs)::rows
 | 0,_,xs,rows,h1,h2=>by
  have h1_:xs.length=1:=h1
  have h2_:rows.length=0:=h2
  obtain⟨x0,txs0,rfl,h1_0⟩:=zcl h1_
  obtain rfl:=zcQ h1_0
  obtain rfl:=zcQ h2_
  exact⟨tc_0 x0,rfl⟩
 | 1,_,xs,rows,h1,h2=>by
  have h1_:xs.length=4:=h1
  have h2_:rows.length=0:=h2
  obtain⟨x0,txs0,rfl,h1_0⟩:=zcl h1_
  obtain⟨x1,txs1,rfl,h1_1⟩:=zcl h1_0
  obtain⟨x2,txs2,rfl,h1_2⟩:=zcl h1_1
  obtain⟨x3,txs3,rfl,h1_3⟩:=zcl h1_2
  obtain rfl:=zcQ h1_3
  obtain rfl:=zcQ h2_
  exact⟨tc_1 x0 x1 x2 x3,rfl⟩
 | 2,_,xs,rows,h1,h2=>by
  have h1_:xs.length=3:=h1
  have h2_:rows.length=0:=h2
  obtain⟨x0,txs0,rfl,h1_0⟩:=zcl h1_
  obtain⟨x1,txs1,rfl,h1_1⟩:=zcl h1_0
  obtain⟨x2,txs2,rfl,h1_2⟩:=zcl h1_1
  obtain rfl:=zcQ h1_2
  obtain rfl:=zcQ h2_
  exact⟨tc_2 x0 x1 x2,rfl⟩
 | 3,_,xs,rows,h1,h2=>by
  have h1_:xs.length=3:=h1
  have h2_:rows.length=0:=h2
  obtain⟨x0,txs0,rfl,h1_0⟩:=zcl h1_
  obtain⟨x1,txs1,rfl,h1_1⟩:=zcl h1_0
  obtain⟨x2,txs2,rfl,h1_2⟩:=zcl h1_1
  obtain rfl:=zcQ h1_2
  obtain rfl:=zcQ h2_
  exact⟨tc_3 x0 x1 x2,rfl⟩
 | 4,_,xs,rows,h1,h2=>by
  have h1_:xs.length=6:=h1
  have h2_:rows.length=0:=h2
  obtain⟨x0,txs0,rfl,h1_0⟩:=zcl h1_
  obtain⟨x1,txs1,rfl,h1_1⟩:=zcl h1_0
  obtain⟨x2,txs2,rfl,h1_2⟩:=zcl h1_1
  obtain⟨x3,txs3,rfl,h1_3⟩:=zcl h1_2
  obtain⟨x4,txs4,rfl,h1_4⟩:=zcl h1_3
  obtain⟨x5,txs5,rfl,h1_5⟩:=zcl h1_4
  obtain rfl:=zcQ h1_5
  obtain rfl:=zcQ h2_
  exact⟨tc_4 x0 x1 x2 x3 x4 x5,rfl⟩
 | 5,_,xs,rows,h1,h2=>by
  have h1_:xs.length=2:=h1
  have h2_:rows.length=0:=h2
  obtain⟨x0,txs0,rfl,h1_0⟩:=zcl h1_
  obtain⟨x1,txs1,rfl,h1_1⟩:=zcl h1_0
  obtain rfl:=zcQ h1_1
  obtain rfl:=zcQ h2_
  exact⟨tc_5 x0 x1,rfl⟩
 | 6,_,xs,rows,h1,h2=>by
  have h1_:xs.length=2:=h1
  have h2_:rows.length=0:=h2
  obtain⟨x0,txs0,rfl,h1_0⟩:=zcl h1_
  obtain⟨x1,txs1,rfl,h1_1⟩:=zcl h1_0
  obtain rfl:=zcQ h1_1
  obtain rfl:=zcQ h2_
  exact⟨tc_6 x0 x1,rfl⟩
 | 7,_,xs,rows,h1,h2=>by
  have h1_:xs.length=1:=h1
  have h2_:rows.length=0:=h2
  obtain⟨x0,txs0,rfl,h1_0⟩:=zcl h1_
  obtain rfl:=zcQ h1_0
  obtain rfl:=zcQ h2_
  exact⟨tc_7 x0,rfl⟩
 | 8,_,xs,rows,h1,h2=>by
  have h1_:xs.length=4:=h1
  have h2_:rows.length=0:=h2
  obtain⟨x0,txs0,rfl,h1_0⟩:=zcl h1_
  obtain⟨x1,txs1,rfl,h1_1⟩:=zcl h1_0
  obtain⟨x2,txs2,rfl,h1_2⟩:=zcl h1_1
  obtain⟨x3,txs3,rfl,h1_3⟩:=zcl h1_2
  obtain rfl:=zcQ h1_3
  obtain rfl:=zcQ h2_
  exact⟨tc_8 x0 x1 x2 x3,rfl⟩
 | 9,_,xs,rows,h1,h2=>by
  have h1_:xs.length=2:=h1
  have h2_:rows.length=0:=h2
  obtain⟨x0,txs0,rfl,h1_0⟩:=zcl h1_
  obtain⟨x1,txs1,rfl,h1_1⟩:=zcl h1_0
  obtain rfl:=zcQ h1_1
  obtain rfl:=zcQ h2_
  exact⟨tc_9 x0 x1,rfl⟩
 | 10,_,xs,rows,h1,h2=>by
  have h1_:xs.length=3:=h1
  have h2_:rows.length=0:=h2
  obtain⟨x0,txs0,rfl,h1_0⟩:=zcl h1_
  obtain⟨x1,txs1,rfl,h1_1⟩:=zcl h1_0
  obtain⟨x2,txs2,rfl,h1_2⟩:=zcl h1_1
  obtain rfl:=zcQ h1_2
  obtain rfl:=zcQ h2_
  exact⟨zrJ x0 x1 x2,rfl⟩
 | 11,_,xs,rows,h1,h2=>by
  have h1_:xs.length=2:=h1
  have h2_:rows.length=0:=h2
  obtain⟨x0,txs0,rfl,h1_0⟩:=zcl h1_
  obtain⟨x1,txs1,rfl,h1_1⟩:=zcl h1_0
  obtain rfl:=zcQ h1_1
  obtain rfl:=zcQ h2_
  exact⟨zrI x0 x1,rfl⟩
 | 12,_,xs,rows,h1,h2=>by
  have h1_:xs.length=3:=h1
  have h2_:rows.length=0:=h2
  obtain⟨x0,txs0,rfl,h1_0⟩:=zcl h1_
  obtain⟨x1,txs1,rfl,h1_1⟩:=zcl h1_0
  obtain⟨x2,txs2,rfl,h1_2⟩:=zcl h1_1
  obtain rfl:=zcQ h1_2
  obtain rfl:=zcQ h2_
  exact⟨zrH x0 x1 x2,rfl⟩
 | 13,_,xs,rows,h1,h2=>by
  have h1_:xs.length=6:=h1
  have h2_:rows.length=0:=h2
  obtain⟨x0,txs0,rfl,h1_0⟩:=zcl h1_
  obtain⟨x1,txs1,rfl,h1_1⟩:=zcl h1_0
  obtain⟨x2,txs2,rfl,h1_2⟩:=zcl h1_1
  obtain⟨x3,txs3,rfl,h1_3⟩:=zcl h1_2
  obtain⟨x4,txs4,rfl,h1_4⟩:=zcl h1_3
  obtain⟨x5,txs5,rfl,h1_5⟩:=zcl h1_4
  obtain rfl:=zcQ h1_5
  obtain rfl:=zcQ h2_
  exact⟨zrG x0 x1 x2 x3 x4 x5,rfl⟩
 | 14,_,xs,rows,h1,h2=>by
  have h1_:xs.length=1:=h1
  have h2_:rows.length=0:=h2
  obtain⟨x0,txs0,rfl,h1_0⟩:=zcl h1_
  obtain rfl:=zcQ h1_0
  obtain rfl:=zcQ h2_
  exact⟨zrF x0,rfl⟩
 | 15,_,xs,rows,h1,h2=>by
  have h1_:xs.length=0:=h1
  have h2_:rows.length=0:=h2
  obtain rfl:=zcQ h1_
  obtain rfl:=zcQ h2_
  exact⟨zrE ,rfl⟩
 | 16,_,xs,rows,h1,h2=>by
  have h1_:xs.length=0:=h1
  have h2_:rows.length=2:=h2
  obtain rfl:=zcQ h1_
  obtain⟨r0,trows0,rfl,h2_0⟩:=zcl h2_
  obtain⟨r1,trows1,rfl,h2_1⟩:=zcl h2_0
  obtain rfl:=zcQ h2_1
  exact⟨zrD r0 r1,rfl⟩
 | 17,_,xs,rows,h1,h2=>by
  have h1_:xs.length=0:=h1
  have h2_:rows.length=1:=h2
  obtain rfl:=zcQ h1_
  obtain⟨r0,trows0,rfl,h2_0⟩:=zcl h2_
  obtain rfl:=zcQ h2_0
  exact⟨zrC r0,rfl⟩
 | 18,_,xs,rows,h1,h2=>by
  have h1_:xs.length=1:=h1
  have h2_:rows.length=1:=h2
  obtain⟨x0,txs0,rfl,h1_0⟩:=zcl h1_
  obtain rfl:=zcQ h1_0
  obtain⟨r0,trows0,rfl,h2_0⟩:=zcl h2_
  obtain rfl:=zcQ h2_0
  exact⟨zrB x0 r0,rfl⟩
 | 19,_,xs,rows,h1,h2=>by
  have h1_:xs.length=0:=h1
  have h2_:rows.length=1:=h2
  obtain rfl:=zcQ h1_
  obtain⟨r0,trows0,rfl,h2_0⟩:=zcl h2_
  obtain rfl:=zcQ h2_0
  exact⟨zrA r0,rfl⟩
 | 20,_,xs,rows,h1,h2=>by
  have h1_:xs.length=0:=h1
  have h2_:rows.length=0:=h2
  obtain rfl:=zcQ h1_
  obtain rfl:=zcQ h2_
  exact⟨zrz ,rfl⟩
 | 21,_,xs,rows,h1,h2=>by
  have h1_:xs.length=1:=h1
  have h2_:rows.length=0:=h2
  obtain⟨x0,txs0,rfl,h1_0⟩:=zcl h1_
  obtain rfl:=zcQ h1_0
  obtain rfl:=zcQ h2_
  exact⟨zry x0,rfl⟩
 | 22,_,xs,rows,h1,h2=>by
  have h1_:xs.length=2:=h1
  have h2_:rows.length=0:=h2
  obtain⟨x0,txs0,rfl,h1_0⟩:=zcl h1_
  obtain⟨x1,txs1,rfl,h1_1⟩:=zcl h1_0
  obtain rfl:=zcQ h1_1
  obtain rfl:=zcQ h2_
  exact⟨zrx x0 x1,rfl⟩
 | 23,_,xs,rows,h1,h2=>by
  have h1_:xs.length=0:=h1
  have h2_:rows.length=0:=h2
  obtain rfl:=zcQ h1_
  obtain rfl:=zcQ h2_
  exact⟨zrw ,rfl⟩
 | 24,_,xs,rows,h1,h2=>by
  have h1_:xs.length=1:=h1
  have h2_:rows.length=0:=h2
  obtain⟨x0,txs0,rfl,h1_0⟩:=zcl h1_
  obtain rfl:=zcQ h1_0
  obtain rfl:=zcQ h2_
  exact⟨zrv x0,rfl⟩
 | 25,_,xs,rows,h1,h2=>by
  have h1_:xs.length=0:=h1
  have h2_:rows.length=0:=h2
  obtain rfl:=zcQ h1_
  obtain rfl:=zcQ h2_
  exact⟨zru ,rfl⟩
 | i + 26,h,_,_,_,_=>absurd h (by omega)
end Z
namespace Z
open PySem PySem.Spec PyProof.Rows L2
open Vbeman (Line Right House Bid)
section
variable {P : Program} {w : World} {K : PySem.W.Frag} {mg : Str → Option Value} {base : Heap} {A : Ad} {f : Addr} {fd : FuncData}
def zc7 (A:Ad) (R:Int→List (Str×Int)→Vbeman.Call→Prop):Sp:=λvs H Q _=>∃(h c:Addr),vs=[.ref h,.ref c]∧∃dx ll lr lb bl S p dc dn dr nums cc,HouseAt A H h dx ll lr lb bl S∧H c=some (.ins A.cCall dc (zgK p dn dr))∧H dn=some (.dK (zdg nums))∧R p nums cc∧zlD A h ll lr lb bl H (Vbeman.onHouse S cc).1 (Vbeman.onHouse S cc).2 Q
abbrev zcE:=top 112
abbrev zda (P:Program) (w:World) (K:PySem.W.Frag) (mg:Str→Option Value) (base:Heap) (A:Ad):Prop:=FnI P w K mg base "answer_to_line_call" 8 ["house","call"] (zc7 A zlC)
theorem zem (F:Fun K "answer_to_line_call" "answer_to_line_call" zcE f fd) (T:Txt K mg A) (zaO:zlG P w K mg base A) (zab:ziw P w K mg base A) (zaq:ze5 P w K mg base A):FnOk P w K mg base CX0 8 f fd ["house","call"] (zc7 A zlC):=by
 have sc:FnScope ["house","call"] ["house","call"] (zbK zcE):=fsc
 refine F.ok sc (by rintro _ _ _ _ ⟨h,c,rfl,_⟩;rfl) λcdv Ar outer s H vs Q E hr h=>?_
 obtain⟨h,c,rfl,h⟩:=h
 refine⟨_,(zbC (zbU (zbO zcs (zbE (pv 1) rfl) zbN (zbR _)) (zbF (zbJ (zbH zab (hr.mono (by decide)) (by rfl) (zbB (pv 0) (zbB (zbE (pv 1) rfl) zbD))))) zbM) (zbC (zbU (zbO zcs (zbE (pv 1) rfl) zbN (zbR _)) (zbF (zbJ (zbH zaq (hr.mono (by decide)) (by rfl) (zbB (pv 0) (zbB (zbE (pv 1) rfl) zbD))))) zbM) (zbF (zbJ (zbH zaO (hr.mono (by decide)) (by rfl) (zbB (pv 0) (zbB (zbE (pv 1) rfl) zbD))))))),?_⟩
 obtain⟨dx,ll,lr,lb,bl,S,p,dc,dn,dr,nums,cc,HH,hc,hd,hR,q⟩:=h
 refine⟨_,rfl,gC T hc rfl ⟨rfl,_,rfl,zb9 (λh1=>?_) (λh1=>?_)⟩⟩
 ·have h1:=isI h1
  refine⟨_,rfl,⟨_,rfl,gC T hc rfl ?_⟩⟩
  refine⟨h,dn,rfl,dx,ll,lr,lb,bl,S,nums,cc,HH,hd,?_,q⟩
  rcases hR with ⟨_,x⟩ | ⟨z,_⟩ | ⟨z,_⟩ <;> first | exact x | (exfalso;omega)
 have h1:=zih h1
 refine⟨_,rfl,gC T hc rfl ⟨rfl,_,rfl,zb9 (λh2=>?_) (λh2=>?_)⟩⟩
 ·have h2:=isI h2
  refine⟨_,rfl,⟨_,rfl,gC T hc rfl ?_⟩⟩
  refine⟨h,dn,rfl,dx,ll,lr,lb,bl,S,nums,cc,HH,hd,?_,q⟩
  rcases hR with ⟨z,_⟩ | ⟨_,x⟩ | ⟨z,_⟩ <;> first | exact x | (exfalso;omega)
 have h2:=zih h2
 refine⟨_,rfl,⟨_,rfl,gC T hc rfl ?_⟩⟩
 refine⟨h,dn,rfl,dx,ll,lr,lb,bl,S,nums,cc,HH,hd,?_,q⟩
 rcases hR with ⟨z,_⟩ | ⟨z,_⟩ | ⟨_,x⟩ <;> first | exact x | (exfalso;omega)
abbrev zcC:=top 113
abbrev zc4 (P:Program) (w:World) (K:PySem.W.Frag) (mg:Str→Option Value) (base:Heap) (A:Ad):Prop:=FnI P w K mg base "answer_to_right_call" 8 ["house","call"] (zc7 A zji)
theorem zd9 (F:Fun K "answer_to_right_call" "answer_to_right_call" zcC f fd) (T:Txt K mg A) (zbd:zhz P w K mg base A) (zaC:zn5 P w K mg base A) (zbf:zhy P w K mg base A) (zaB:zhD P w K mg base A):FnOk P w K mg base CX0 8 f fd ["house","call"] (zc7 A zji):=by
 have sc:FnScope ["house","call"] ["house","call"] (zbK zcC):=fsc
 refine F.ok sc (by rintro _ _ _ _ ⟨h,c,rfl,_⟩;rfl) λcdv Ar outer s H vs Q E hr h=>?_
 obtain⟨h,c,rfl,h⟩:=h
 refine⟨_,(zbC (zbU (zbO zcs (zbE (pv 1) rfl) zbN (zbR _)) (zbF (zbJ (zbH zaC (hr.mono (by decide)) (by rfl) (zbB (pv 0) (zbB (zbE (pv 1) rfl) zbD))))) zbM) (zbC (zbU (zbO zcs (zbE (pv 1) rfl) zbN (zbR _)) (zbF (zbJ (zbH zbf (hr.mono (by decide)) (by rfl) (zbB (pv 0) (zbB (zbE (pv 1) rfl) zbD))))) zbM) (zbC (zbU (zbO zcs (zbE (pv 1) rfl) zbN (zbR _)) (zbF (zbJ (zbH zaB (hr.mono (by decide)) (by rfl) (zbB (pv 0) (zbB (zbE (pv 1) rfl) zbD))))) zbM) (zbF (zbJ (zbH zbd (hr.mono (by decide)) (by rfl) (zbB (pv 0) (zbB (zbE (pv 1) rfl) zbD)))))))),?_⟩
 obtain⟨dx,ll,lr,lb,bl,S,p,dc,dn,dr,nums,cc,HH,hc,hd,hR,q⟩:=h
 refine⟨_,rfl,gC T hc rfl ⟨rfl,_,rfl,zb9 (λh1=>?_) (λh1=>?_)⟩⟩
 ·have h1:=isI h1
  refine⟨_,rfl,⟨_,rfl,gC T hc rfl ?_⟩⟩
  refine⟨h,dn,rfl,dx,ll,lr,lb,bl,S,nums,cc,HH,hd,?_,q⟩
  rcases hR with ⟨_,x⟩ | ⟨z,_⟩ | ⟨z,_⟩ | ⟨z,_⟩ <;> first | exact x | (exfalso;omega)
 have h1:=zih h1
 refine⟨_,rfl,gC T hc rfl ⟨rfl,_,rfl,zb9 (λh2=>?_) (λh2=>?_)⟩⟩
 ·have h2:=isI h2
  refine⟨_,rfl,⟨_,rfl,gC T hc rfl ?_⟩⟩
  refine⟨h,dn,rfl,dx,ll,lr,lb,bl,S,nums,cc,HH,hd,?_,q⟩
  rcases hR with ⟨z,_⟩ | ⟨_,x⟩ | ⟨z,_⟩ | ⟨z,_⟩ <;> first | exact x | (exfalso;omega)
 have h2:=zih h2
 refine⟨_,rfl,gC T hc rfl ⟨rfl,_,rfl,zb9 (λh3=>?_) (λh3=>?_)⟩⟩
 ·have h3:=isI h3
  refine⟨_,rfl,⟨_,rfl,gC T hc rfl ?_⟩⟩
  refine⟨h,dn,rfl,dx,ll,lr,lb,bl,S,nums,cc,HH,hd,?_,q⟩
  rcases hR with ⟨z,_⟩ | ⟨z,_⟩ | ⟨_,x⟩ | ⟨z,_⟩ <;> first | exact x | (exfalso;omega)
 have h3:=zih h3
 refine⟨_,rfl,⟨_,rfl,gC T hc rfl ?_⟩⟩
 refine⟨h,dn,rfl,dx,ll,lr,lb,bl,S,nums,cc,HH,hd,?_,q⟩
 rcases hR with ⟨z,_⟩ | ⟨z,_⟩ | ⟨z,_⟩ | ⟨_,x⟩ <;> first | exact x | (exfalso;omega)
abbrev zcB:=top 114
abbrev zc3 (P:Program) (w:World) (K:PySem.W.Frag) (mg:Str→Option Value) (base:Heap) (A:Ad):Prop:=FnI P w K mg base "answer_to_trade_call" 8 ["house","call"] (zc7 A zjh)
theorem zd8 (F:Fun K "answer_to_trade_call" "answer_to_trade_call" zcB f fd) (T:Txt K mg A) (zac:zn8 P w K mg base A) (zaP:zkj P w K mg base A) (zaL:zfU P w K mg base A) (zap:zn6 P w K mg base A) (za9:zhA P w K mg base A):FnOk P w K mg base CX0 8 f fd ["house","call"] (zc7 A zjh):=by
 have sc:FnScope ["house","call"] ["house","call"] (zbK zcB):=fsc
 refine F.ok sc (by rintro _ _ _ _ ⟨h,c,rfl,_⟩;rfl) λcdv Ar outer s H vs Q E hr h=>?_
 obtain⟨h,c,rfl,h⟩:=h
 refine⟨_,(zbC (zbU (zbO zcs (zbE (pv 1) rfl) zbN (zbR _)) (zbF (zbJ (zbH zaP (hr.mono (by decide)) (by rfl) (zbB (pv 0) (zbB (zbE (pv 1) rfl) zbD))))) zbM) (zbC (zbU (zbO zcs (zbE (pv 1) rfl) zbN (zbR _)) (zbF (zbJ (zbH zaL (hr.mono (by decide)) (by rfl) (zbB (pv 0) (zbB (zbE (pv 1) rfl) zbD))))) zbM) (zbC (zbU (zbO zcs (zbE (pv 1) rfl) zbN (zbR _)) (zbF (zbJ (zbH zap (hr.mono (by decide)) (by rfl) (zbB (pv 0) (zbB (zbE (pv 1) rfl) zbD))))) zbM) (zbC (zbU (zbO zcs (zbE (pv 1) rfl) zbN (zbR _)) (zbF (zbJ (zbH za9 (hr.mono (by decide)) (by rfl) (zbB (pv 0) (zbB (zbE (pv 1) rfl) zbD))))) zbM) (zbF (zbJ (zbH zac (hr.mono (by decide)) (by rfl) (zbB (pv 0) (zbB (zbE (pv 1) rfl) zbD))))))))),?_⟩
 obtain⟨dx,ll,lr,lb,bl,S,p,dc,dn,dr,nums,cc,HH,hc,hd,hR,q⟩:=h
 refine⟨_,rfl,gC T hc rfl ⟨rfl,_,rfl,zb9 (λh1=>?_) (λh1=>?_)⟩⟩
 ·have h1:=isI h1
  refine⟨_,rfl,⟨_,rfl,gC T hc rfl ?_⟩⟩
  refine⟨h,dn,rfl,dx,ll,lr,lb,bl,S,nums,cc,HH,hd,?_,q⟩
  rcases hR with ⟨_,x⟩ | ⟨z,_⟩ | ⟨z,_⟩ | ⟨z,_⟩ | ⟨z,_⟩ <;> first | exact x | (exfalso;omega)
 have h1:=zih h1
 refine⟨_,rfl,gC T hc rfl ⟨rfl,_,rfl,zb9 (λh2=>?_) (λh2=>?_)⟩⟩
 ·have h2:=isI h2
  refine⟨_,rfl,⟨_,rfl,gC T hc rfl ?_⟩⟩
  refine⟨h,dn,rfl,dx,ll,lr,lb,bl,S,nums,cc,HH,hd,?_,q⟩
  rcases hR with ⟨z,_⟩ | ⟨_,x⟩ | ⟨z,_⟩ | ⟨z,_⟩ | ⟨z,_⟩ <;> first | exact x | (exfalso;omega)
 have h2:=zih h2
 refine⟨_,rfl,gC T hc rfl ⟨rfl,_,rfl,zb9 (λh3=>?_) (λh3=>?_)⟩⟩
 ·have h3:=isI h3
  refine⟨_,rfl,⟨_,rfl,gC T hc rfl ?_⟩⟩
  refine⟨h,dn,rfl,dx,ll,lr,lb,bl,S,nums,cc,HH,hd,?_,q⟩
  rcases hR with ⟨z,_⟩ | ⟨z,_⟩ | ⟨_,x⟩ | ⟨z,_⟩ | ⟨z,_⟩ <;> first | exact x | (exfalso;omega)
 have h3:=zih h3
 refine⟨_,rfl,gC T hc rfl ⟨rfl,_,rfl,zb9 (λh4=>?_) (λh4=>?_)⟩⟩
 ·have h4:=isI h4
  refine⟨_,rfl,⟨_,rfl,gC T hc rfl ?_⟩⟩
  refine⟨h,dn,rfl,dx,ll,lr,lb,bl,S,nums,cc,HH,hd,?_,q⟩
  rcases hR with ⟨z,_⟩ | ⟨z,_⟩ | ⟨z,_⟩ | ⟨_,x⟩ | ⟨z,_⟩ <;> first | exact x | (exfalso;omega)
 have h4:=zih h4
 refine⟨_,rfl,⟨_,rfl,gC T hc rfl ?_⟩⟩
 refine⟨h,dn,rfl,dx,ll,lr,lb,bl,S,nums,cc,HH,hd,?_,q⟩
 rcases hR with ⟨z,_⟩ | ⟨z,_⟩ | ⟨z,_⟩ | ⟨z,_⟩ | ⟨_,x⟩ <;> first | exact x | (exfalso;omega)
abbrev zcM:=top 115
abbrev zdk (P:Program) (w:World) (K:PySem.W.Frag) (mg:Str→Option Value) (base:Heap) (A:Ad):Prop:=FnI P w K mg base "answer_to_bid_call" 8 ["house","call"] (zc7 A zo9)
theorem zeI (F:Fun K "answer_to_bid_call" "answer_to_bid_call" zcM f fd) (T:Txt K mg A) (zal:zn7 P w K mg base A) (zaa:zkl P w K mg base A) (zba:zeT P w K mg base A):FnOk P w K mg base CX0 8 f fd ["house","call"] (zc7 A zo9):=by
 have sc:FnScope ["house","call"] ["house","call"] (zbK zcM):=fsc
 refine F.ok sc (by rintro _ _ _ _ ⟨h,c,rfl,_⟩;rfl) λcdv Ar outer s H vs Q E hr h=>?_
 obtain⟨h,c,rfl,h⟩:=h
 refine⟨_,(zbC (zbU (zbO zcs (zbE (pv 1) rfl) zbN (zbR _)) (zbF (zbJ (zbH zaa (hr.mono (by decide)) (by rfl) (zbB (pv 0) (zbB (zbE (pv 1) rfl) zbD))))) zbM) (zbC (zbU (zbO zcs (zbE (pv 1) rfl) zbN (zbR _)) (zbF (zbJ (zbH zba (hr.mono (by decide)) (by rfl) (zbB (pv 0) (zbB (zbE (pv 1) rfl) zbD))))) zbM) (zbF (zbJ (zbH zal (hr.mono (by decide)) (by rfl) (zbB (pv 0) zbD)))))),?_⟩
 obtain⟨dx,ll,lr,lb,bl,S,p,dc,dn,dr,nums,cc,HH,hc,hd,hR,q⟩:=h
 refine⟨_,rfl,gC T hc rfl ⟨rfl,_,rfl,zb9 (λh1=>?_) (λh1=>?_)⟩⟩
 ·have h1:=isI h1
  refine⟨_,rfl,⟨_,rfl,gC T hc rfl ?_⟩⟩
  refine⟨h,dn,rfl,dx,ll,lr,lb,bl,S,nums,cc,HH,hd,?_,q⟩
  rcases hR with ⟨_,x⟩ | ⟨z,_⟩ | ⟨z,_⟩ <;> first | exact x | (exfalso;omega)
 have h1:=zih h1
 refine⟨_,rfl,gC T hc rfl ⟨rfl,_,rfl,zb9 (λh2=>?_) (λh2=>?_)⟩⟩
 ·have h2:=isI h2
  refine⟨_,rfl,⟨_,rfl,gC T hc rfl ?_⟩⟩
  refine⟨h,dn,rfl,dx,ll,lr,lb,bl,S,nums,cc,HH,hd,?_,q⟩
  rcases hR with ⟨z,_⟩ | ⟨_,x⟩ | ⟨z,_⟩ <;> first | exact x | (exfalso;omega)
 have h2:=zih h2
 refine⟨_,rfl,?_⟩
 have e:cc=.award:=by
  rcases hR with ⟨z,_⟩ | ⟨z,_⟩ | ⟨_,x⟩ <;> first | exact x | (exfalso;omega)
 subst e
 exact⟨h,rfl,dx,ll,lr,lb,bl,S,HH,q⟩
abbrev zcF:=top 117
abbrev zdb (P:Program) (w:World) (K:PySem.W.Frag) (mg:Str→Option Value) (base:Heap) (A:Ad):Prop:=FnI P w K mg base "answer_to_last_call" 7 ["house","call"] (zc7 A zo8)
theorem zen (F:Fun K "answer_to_last_call" "answer_to_last_call" zcF f fd) (T:Txt K mg A) (zbi:zgy P w K mg base A) (zbj:zgx P w K mg base A) (zbe:zgz P w K mg base A) (zaQ:zlF P w K mg base A) (zbb:zeS P w K mg base A) (zbh:zfP P w K mg base A):FnOk P w K mg base CX0 7 f fd ["house","call"] (zc7 A zo8):=by
 have sc:FnScope ["house","call"] ["house","call"] (zbK zcF):=fsc
 refine F.ok sc (by rintro _ _ _ _ ⟨h,c,rfl,_⟩;rfl) λcdv Ar outer s H vs Q E hr h=>?_
 obtain⟨h,c,rfl,h⟩:=h
 refine⟨_,(zbC (zbU (zbO zcs (zbE (pv 1) rfl) zbN (zbR _)) (zbF (zbJ (zbH zbj (hr.mono (by decide)) (by rfl) (zbB (pv 0) zbD)))) zbM) (zbC (zbU (zbO zcs (zbE (pv 1) rfl) zbN (zbR _)) (zbF (zbJ (zbH zbe (hr.mono (by decide)) (by rfl) (zbB (pv 0) (zbB (zbE (pv 1) rfl) zbD))))) zbM) (zbC (zbU (zbO zcs (zbE (pv 1) rfl) zbN (zbR _)) (zbF (zbJ (zbH zaQ (hr.mono (by decide)) (by rfl) (zbB (pv 0) (zbB (zbE (pv 1) rfl) zbD))))) zbM) (zbC (zbU (zbO zcs (zbE (pv 1) rfl) zbN (zbR _)) (zbF (zbJ (zbH zbb (hr.mono (by decide)) (by rfl) (zbB (pv 0) zbD)))) zbM) (zbC (zbU (zbO zcs (zbE (pv 1) rfl) zbN (zbR _)) (zbF (zbJ (zbH zbh (hr.mono (by decide)) (by rfl) (zbB (pv 0) (zbB (zbE (pv 1) rfl) zbD))))) zbM) (zbF (zbJ (zbH zbi (hr.mono (by decide)) (by rfl) (zbB (pv 0) zbD))))))))),?_⟩
 obtain⟨dx,ll,lr,lb,bl,S,p,dc,dn,dr,nums,cc,HH,hc,hd,hR,q⟩:=h
 refine⟨_,rfl,gC T hc rfl ⟨rfl,_,rfl,zb9 (λh1=>?_) (λh1=>?_)⟩⟩
 ·have h1:=isI h1
  refine⟨_,rfl,?_⟩
  have e:cc=.tight:=by
   rcases hR with ⟨_,x⟩ | ⟨z,_⟩ | ⟨z,_⟩ | ⟨z,_⟩ | ⟨z,_⟩ | ⟨z,_⟩ <;> first | exact x | (exfalso;omega)
  subst e
  exact⟨h,rfl,dx,ll,lr,lb,bl,S,HH,q⟩
 have h1:=zih h1
 refine⟨_,rfl,gC T hc rfl ⟨rfl,_,rfl,zb9 (λh2=>?_) (λh2=>?_)⟩⟩
 ·have h2:=isI h2
  refine⟨_,rfl,⟨_,rfl,gC T hc rfl ?_⟩⟩
  refine⟨h,dn,rfl,dx,ll,lr,lb,bl,S,nums,cc,HH,hd,?_,q⟩
  rcases hR with ⟨z,_⟩ | ⟨_,x⟩ | ⟨z,_⟩ | ⟨z,_⟩ | ⟨z,_⟩ | ⟨z,_⟩ <;> first | exact x | (exfalso;omega)
 have h2:=zih h2
 refine⟨_,rfl,gC T hc rfl ⟨rfl,_,rfl,zb9 (λh3=>?_) (λh3=>?_)⟩⟩
 ·have h3:=isI h3
  refine⟨_,rfl,⟨_,rfl,gC T hc rfl ?_⟩⟩
  refine⟨h,dn,rfl,dx,ll,lr,lb,bl,S,nums,cc,HH,hd,?_,q⟩
  rcases hR with ⟨z,_⟩ | ⟨z,_⟩ | ⟨_,x⟩ | ⟨z,_⟩ | ⟨z,_⟩ | ⟨z,_⟩ <;> first | exact x | (exfalso;omega)
 have h3:=zih h3
 refine⟨_,rfl,gC T hc rfl ⟨rfl,_,rfl,zb9 (λh4=>?_) (λh4=>?_)⟩⟩
 ·have h4:=isI h4
  refine⟨_,rfl,?_⟩
  have e:cc=.house:=by
   rcases hR with ⟨z,_⟩ | ⟨z,_⟩ | ⟨z,_⟩ | ⟨_,x⟩ | ⟨z,_⟩ | ⟨z,_⟩ <;> first | exact x | (exfalso;omega)
  subst e
  exact⟨h,rfl,dx,ll,lr,lb,bl,S,HH,q⟩
 have h4:=zih h4
 refine⟨_,rfl,gC T hc rfl ⟨rfl,_,rfl,zb9 (λh5=>?_) (λh5=>?_)⟩⟩
 ·have h5:=isI h5
  refine⟨_,rfl,⟨_,rfl,gC T hc rfl ?_⟩⟩
  refine⟨h,dn,rfl,dx,ll,lr,lb,bl,S,nums,cc,HH,hd,?_,q⟩
  rcases hR with ⟨z,_⟩ | ⟨z,_⟩ | ⟨z,_⟩ | ⟨z,_⟩ | ⟨_,x⟩ | ⟨z,_⟩ <;> first | exact x | (exfalso;omega)
 have h5:=zih h5
 refine⟨_,rfl,?_⟩
 have e:cc=.state:=by
  rcases hR with ⟨z,_⟩ | ⟨z,_⟩ | ⟨z,_⟩ | ⟨z,_⟩ | ⟨z,_⟩ | ⟨_,x⟩ <;> first | exact x | (exfalso;omega)
 subst e
 exact⟨h,rfl,dx,ll,lr,lb,bl,S,HH,q⟩
theorem znN {H:Hp} {d:Addr} {rs:List (Str×Addr)} {x:Str} {v:V} (hd:H d=some (.dK (zel rs))) (hv:zhJ (zel rs) (.inr x)=some v:=by rfl):DGet H d (.str x) (some v):=by
 rw[←hv]
 exact DGet.k (k:=.inr x) hd
def zjs (A:Ad):Sp:=λvs H Q _=>∃(h c:Addr),vs=[.ref h,.ref c]∧∃dx ll lr lb bl S p dc dn dr nums ra rows cc,HouseAt A H h dx ll lr lb bl S∧H c=some (.ins A.cCall dc (zgK p dn dr))∧H dn=some (.dK (zdg nums))∧H dr=some (.dK (zel ((rowNames p).zip ra)))∧AllAt (zjg H) ra rows∧(∀a∈ra,a≠bl)∧zqo p nums rows cc∧zlD A h ll lr lb bl H (Vbeman.onHouse S cc).1 (Vbeman.onHouse S cc).2 Q
abbrev zcL:=top 116
abbrev zdj (P:Program) (w:World) (K:PySem.W.Frag) (mg:Str→Option Value) (base:Heap) (A:Ad):Prop:=FnI P w K mg base "answer_to_row_call" 6 ["house","call"] (zjs A)
theorem zeH (F:Fun K "answer_to_row_call" "answer_to_row_call" zcL f fd) (T:Txt K mg A) (zbc:zgA P w K mg base A) (za5:zlE P w K mg base A) (zbg:zfQ P w K mg base A) (zbk:zgw P w K mg base A):FnOk P w K mg base CX0 6 f fd ["house","call"] (zjs A):=by
 have sc:FnScope ["house","call"] ["house","call"] (zbK zcL):=fsc
 refine F.ok sc (by rintro _ _ _ _ ⟨h,c,rfl,_⟩;rfl) λcdv Ar outer s H vs Q E hr h=>?_
 obtain⟨h,c,rfl,h⟩:=h
 refine⟨_,(zbC (zbU (zbO zcs (zbE (pv 1) rfl) zbN (zbR _)) (zbF (zbJ (zbH za5 (hr.mono (by decide)) (by rfl) (zbB (pv 0) (zbB (zbS (zb8 hr) (zbE (pv 1) rfl) zbV (λ_ _=>rfl)) (zbB (zbS (zb8 hr) (zbE (pv 1) rfl) zbV (λ_ _=>rfl)) zbD)))))) zbM) (zbC (zbU (zbO zcs (zbE (pv 1) rfl) zbN (zbR _)) (zbF (zbJ (zbH zbg (hr.mono (by decide)) (by rfl) (zbB (pv 0) (zbB (zbS (zb8 hr) (zbE (pv 1) rfl) zbV (λ_ _=>rfl)) zbD))))) zbM) (zbC (zbU (zbO zcs (zbE (pv 1) rfl) zbN (zbR _)) (zbF (zbJ (zbH zbk (hr.mono (by decide)) (by rfl) (zbB (pv 0) (zbB (zbE (pv 1) rfl) (zbB (zbS (zb8 hr) (zbE (pv 1) rfl) zbV (λ_ _=>rfl)) zbD)))))) zbM) (zbF (zbJ (zbH zbc (hr.mono (by decide)) (by rfl) (zbB (pv 0) (zbB (zbS (zb8 hr) (zbE (pv 1) rfl) zbV (λ_ _=>rfl)) zbD)))))))),?_⟩
 obtain⟨dx,ll,lr,lb,bl,S,p,dc,dn,dr,nums,ra,rows,cc,HH,hc,hd,hdr,hA,hnb,hR,q⟩:=h
 refine⟨_,rfl,gC T hc rfl ⟨rfl,_,rfl,zb9 (λh1=>?_) (λh1=>?_)⟩⟩
 ·have h1:=isI h1
  obtain⟨pr,fl,er,hpr,rfl⟩:∃pr fl,rows=[pr,fl]∧zeP pr∧cc=.settle pr fl:=by
   rcases hR with ⟨_,x⟩ | ⟨z,_⟩ | ⟨z,_⟩ | ⟨z,_⟩ <;> first | exact x | (exfalso;omega)
  subst er h1
  obtain⟨a1,t1,e1,hl1⟩:=zcl (n:=1) hA.1
  subst e1
  obtain⟨a2,t2,e2,hl2⟩:=zcl (n:=0) hl1
  subst e2
  obtain rfl:=zcQ hl2
  have hp:zjg H a1 pr:=hA.2 0 a1 pr rfl rfl
  have hf:zjg H a2 fl:=hA.2 1 a2 fl rfl rfl
  refine⟨_,rfl,⟨_,rfl,gC T hc rfl ⟨_,_,rfl,znN hdr,⟨_,rfl,gC T hc rfl ⟨_,_,rfl,znN hdr,?_⟩⟩⟩⟩⟩
  exact⟨h,a1,a2,rfl,dx,ll,lr,lb,bl,S,pr,fl,HH,hnb a1 (List.mem_cons_self ..),hp,hpr,hf,q⟩
 have h1:=zih h1
 refine⟨_,rfl,gC T hc rfl ⟨rfl,_,rfl,zb9 (λh2=>?_) (λh2=>?_)⟩⟩
 ·have h2:=isI h2
  obtain⟨pr,er,hpr,rfl⟩:∃pr,rows=[pr]∧zeP pr∧cc=.payout pr:=by
   rcases hR with ⟨z,_⟩ | ⟨_,x⟩ | ⟨z,_⟩ | ⟨z,_⟩ <;> first | exact x | (exfalso;omega)
  subst er h2
  obtain⟨a1,t1,e1,hl1⟩:=zcl (n:=0) hA.1
  subst e1
  obtain rfl:=zcQ hl1
  have hp:zjg H a1 pr:=hA.2 0 a1 pr rfl rfl
  refine⟨_,rfl,⟨_,rfl,gC T hc rfl ⟨_,_,rfl,znN hdr,?_⟩⟩⟩
  exact⟨h,a1,rfl,dx,ll,lr,lb,bl,S,pr,HH,hp,hpr,q⟩
 have h2:=zih h2
 refine⟨_,rfl,gC T hc rfl ⟨rfl,_,rfl,zb9 (λh3=>?_) (λh3=>?_)⟩⟩
 ·have h3:=isI h3
  obtain⟨k,pr,en,er,rfl⟩:∃(k:Nat) (pr:List Int),nums=([("right",(k:Int))]:List (Str×Int))∧rows=[pr]∧cc=.value k pr:=by
   rcases hR with ⟨z,_⟩ | ⟨z,_⟩ | ⟨_,x⟩ | ⟨z,_⟩ <;> first | exact x | (exfalso;omega)
  subst er h3 en
  obtain⟨a1,t1,e1,hl1⟩:=zcl (n:=0) hA.1
  subst e1
  obtain rfl:=zcQ hl1
  have hp:zjg H a1 pr:=hA.2 0 a1 pr rfl rfl
  refine⟨_,rfl,⟨_,rfl,gC T hc rfl ⟨_,rfl,gC T hc rfl ⟨_,_,rfl,znN hdr,?_⟩⟩⟩⟩
  exact⟨h,dn,a1,rfl,dx,ll,lr,lb,bl,S,k,pr,HH,hd,hp,q⟩
 have h3:=zih h3
 obtain⟨ep,g,er,hg,rfl⟩:p=19∧∃g,rows=[g]∧(∀x∈g,x=0∨x=1)∧cc=.group g:=by
  rcases hR with ⟨z,_⟩ | ⟨z,_⟩ | ⟨z,_⟩ | x <;> first | exact x | (exfalso;omega)
 subst er ep
 obtain⟨a1,t1,e1,hl1⟩:=zcl (n:=0) hA.1
 subst e1
 obtain rfl:=zcQ hl1
 have hp:zjg H a1 g:=hA.2 0 a1 g rfl rfl
 refine⟨_,rfl,⟨_,rfl,gC T hc rfl ⟨_,_,rfl,znN hdr,?_⟩⟩⟩
 exact⟨h,a1,rfl,dx,ll,lr,lb,bl,S,g,HH,hp,hg,q⟩
theorem zmC {st:Vbeman.State} {c:Vbeman.Call} (h:zi4 c=true) (hs:st.house=none):Vbeman.step st c=(st,[-2]):=by
 obtain⟨hh⟩:=st
 have hs:hh=none:=hs
 subst hs
 cases c <;> first | rfl | cases h
theorem zmB {st:Vbeman.State} {c:Vbeman.Call} {S:House} (h:zi4 c=true) (hs:st.house=some S):Vbeman.step st c=(⟨some (Vbeman.onHouse S c).1⟩,(Vbeman.onHouse S c).2):=by
 obtain⟨hh⟩:=st
 have hs:hh=some S:=hs
 subst hs
 cases c <;> first | rfl | cases h
theorem zoY {n:Nat} (h2:2≤n) (h6:n≤6):Good (zea n) :=
 ⟨h2,h6,Nat.zero_le _,Nat.zero_le _,λl hl=>(List.not_mem_nil hl).elim,λl hl=>(List.not_mem_nil hl).elim,List.nodup_nil,rfl,⟨Nat.zero_le _,λl hl=>(List.not_mem_nil hl).elim,List.nodup_nil⟩⟩
theorem StAt.obj {H:Hp} {h ll lr lb bl:Addr} {st:Vbeman.State} (x:StAt A H h ll lr lb bl st):∃dx S,H h=some (.ins A.cHouse dx (zbY S ll lr lb bl))∧(st.house=none→S.zones=0)∧∀S',st.house=some S'→HouseAt A H h dx ll lr lb bl S'∧S=S':=by
 unfold StAt at x
 cases e:st.house with
 | none=>rw[e] at x;obtain⟨dx,z⟩:=x;exact⟨dx,_,z,λ_=>rfl,λS' z=>by cases z⟩
 | some S=>rw[e] at x;obtain⟨dx,z⟩:=x;exact⟨dx,S,z.obj,(λz=>by cases z),λS' z'=>by cases z';exact⟨z,rfl⟩⟩
theorem zlU:∀i:Fin 26,(∀n∈namesOf ((i:Nat):Int),∃b,L_RANGES.lookup n=some b)∧∀n∈rowNames ((i:Nat):Int),∃b,L_RANGES.lookup n=some b:=by
 have h:∀i:Fin 26,((namesOf ((i:Nat):Int)).all λn=>(L_RANGES.lookup n).isSome)=true∧((rowNames ((i:Nat):Int)).all λn=>(L_RANGES.lookup n).isSome)=true:=by decide +kernel
 intro i
 obtain⟨a,b⟩:=h i
 exact⟨λn hn=>Option.isSome_iff_exists.mp (List.all_eq_true.mp a n hn),λn hn=>Option.isSome_iff_exists.mp (List.all_eq_true.mp b n hn)⟩
abbrev zfk:=top 111
theorem zjT (F:Fun K "answer_to" "answer_to" zfk f fd) (T:Txt K mg A) (zaf:zdb P w K mg base A) (zaH:zgC P w K mg base A) (zbv:zef P w K mg base A) (zby:zek P w K mg base A) (zag:zda P w K mg base A) (zah:zc4 P w K mg base A) (zaj:zc3 P w K mg base A) (zae:zdk P w K mg base A) (zai:zdj P w K mg base A):FnOk P w K mg base CX0 9 f fd ["house","call"] (zic A):=by
 have sc:FnScope ["house","call"] ["house","call"] (zbK zfk):=fsc
 refine F.ok sc (by rintro _ _ _ _ ⟨h,c,rfl,_⟩;rfl) λcdv Ar outer s H vs Q E hr h=>?_
 obtain⟨h,c,rfl,h⟩:=h
 refine⟨_,(zbC (zbU (zcW (zcy (zbH zaH (hr.mono (by decide)) (by rfl) (zbB (pv 1) zbD)))) (zbF (zbJ (zbQ (zbB (zb6 T.i_NOT_AS_TOLD (by rfl)) zbD)))) zbM) (zbC (zbU (zbO zcs (zbE (pv 1) rfl) zbN (zbR _)) (zbC (zcf (zch zbv (hr.mono (by decide)) (pv 0) (zbB (zbS (zb8 hr) (zbE (pv 1) rfl) zbV (λ_ _=>rfl)) zbD))) (zbF (zbJ (zbQ (zbB zbN zbD))))) zbM) (zbC (zbU (zcW (zcy (zm0 zby (hr.mono (by decide)) (pv 0)))) (zbF (zbJ (zbQ (zbB (zb6 T.i_NO_HOUSE (by rfl)) zbD)))) zbM) (zbC (zbU (zbO zhK (zbE (pv 1) rfl) zbN (zbR _)) (zbF (zbJ (zbH zag (hr.mono (by decide)) (by rfl) (zbB (pv 0) (zbB (pv 1) zbD))))) zbM) (zbC (zbU (zbO zhK (zbE (pv 1) rfl) zbN (zbR _)) (zbF (zbJ (zbH zah (hr.mono (by decide)) (by rfl) (zbB (pv 0) (zbB (pv 1) zbD))))) zbM) (zbC (zbU (zbO zhK (zbE (pv 1) rfl) zbN (zbR _)) (zbF (zbJ (zbH zaj (hr.mono (by decide)) (by rfl) (zbB (pv 0) (zbB (pv 1) zbD))))) zbM) (zbC (zbU (zbO zhK (zbE (pv 1) rfl) zbN (zbR _)) (zbF (zbJ (zbH zae (hr.mono (by decide)) (by rfl) (zbB (pv 0) (zbB (pv 1) zbD))))) zbM) (zbC (zbU (zbO zhK (zbE (pv 1) rfl) zbN (zbR _)) (zbF (zbJ (zbH zai (hr.mono (by decide)) (by rfl) (zbB (pv 0) (zbB (pv 1) zbD))))) zbM) (zbF (zbJ (zbH zaf (hr.mono (by decide)) (by rfl) (zbB (pv 0) (zbB (pv 1) zbD))))))))))))),?_⟩
 obtain⟨ll,lr,lb,bl,st,call,St,hC,⟨p,xs,rows,n,k,rfl,hsh,hxl,hrl,hshort⟩,q⟩:=h
 obtain⟨dc,dn,dr,ra,hc0,hdn0,hdr0,hra0⟩:=hC
 have hc:H c=some (.ins A.cCall dc (zgK p dn dr)):=zdD _ _ hc0
 have hdn:H dn=some (.dK (zdg ((namesOf p).zip xs))):=zdD _ _ hdn0
 have hdr:H dr=some (.dK (zel ((rowNames p).zip ra))):=zdD _ _ hdr0
 have hra:AllAt (zjg H) ra rows:=hra0.imp λa r z=>zdD _ _ z
 have hnb:∀a∈ra,a≠bl:=λa ha=>by
  obtain⟨i,hi⟩:=List.getElem?_of_mem ha
  have hil:i < rows.length:=by rw[←hra.1];exact (List.getElem?_eq_some_iff.mp hi).1
  have:=hra0.2 i a rows[i] hi (List.getElem?_eq_getElem hil)
  exact (zrY (zcS this).1).2.2.2.2
 obtain⟨i,hi,ei⟩:=ze9 hsh
 subst ei
 obtain⟨e1,e2,e3,e4,e5,e6,e7⟩:=ziA hi hsh
 have hT:TC (i:Int) xs rows:=(zpd hi (by rw[hxl,e1]) (by rw[hrl,e2])).1
 obtain⟨rg1,rg2⟩:=zlU ⟨i,hi⟩
 obtain⟨dx,S0,hh,hz0,hS0⟩:=St.obj
 have estep:VbemanNeutral.step st (((i:Int)::xs)::rows)=(match Vbeman.decode (((i:Int)::xs)::rows) with | some k=>Vbeman.step st k | none=>(st,[-1])):=rfl
 have no:∀{H1:Hp} {ans:List Int} {vs:List V},Same H H1→VbemanNeutral.step st (((i:Int)::xs)::rows)=(st,ans)→vs=ans.map V.int→ans.length≤1000→vs.length≤sizeLine∧∀p,H1 p=none→Q (.ref p) (upd H1 p (.lst vs)):=λ{H1 ans vs} s1 es hv hl=>by
  subst hv
  rw[es] at q
  refine⟨by rw[List.length_map];exact Nat.le_of_lt (zb0 hl),λp hp=>?_⟩
  have s2:=s1.trans (Same.upd (o:=.lst (ans.map V.int)) hp)
  exact q _ p ll lr lb bl (St.same s2) (zcd s2) (zeL (zcd s1) hp) hl zbG
 refine⟨_,rfl,?_⟩
 refine⟨c,rfl,(i:Int),dc,dn,dr,(namesOf (i:Int)).zip xs,(rowNames (i:Int)).zip ra,(rowNames (i:Int)).zip rows,hc,hdn,hdr,λx hx=>rg1 _ (List.of_mem_zip hx).1,?_,?_,?_,λj x y hx hy=>?_,λH1 s1=>⟨_,rfl,?_⟩⟩
 ·rw[List.length_zip];exact Nat.le_trans (Nat.min_le_left _ _) (by omega)
 ·rw[List.length_zip];exact Nat.le_trans (Nat.min_le_left _ _) (by omega)
 ·rw[List.length_zip,List.length_zip,hra.1]
 ·obtain⟨x1,x2⟩:=x
  obtain⟨y1,y2⟩:=y
  rw[List.getElem?_zip_eq_some] at hx hy
  have en:x1=y1:=Option.some.inj (hx.1.symm.trans hy.1)
  exact⟨en,rg2 _ (List.mem_of_getElem? hy.1),hshort y2 (List.mem_of_getElem? hy.2),hra.2 j x2 y2 hx.2 hy.2⟩
 refine zb9 (λh1=>?_) (λh1=>?_)
 ·have h1:(!zca (i:Int) xs rows)=true:=h1
  have h1:zca (i:Int) xs rows=false:=by rw[Bool.not_eq_true'] at h1;exact h1
  refine no s1 (ans:=[-1]) ?_ rfl (by decide)
  rw[estep,hT.1 h1]
 have h1:¬(!zca (i:Int) xs rows)=true:=h1
 have h1:zca (i:Int) xs rows=true:=by
  cases e:zca (i:Int) xs rows with
  | true=>rfl
  | false=>rw[e] at h1;exact absurd rfl h1
 obtain⟨cc,hdec,hRA⟩:=hT.2 h1
 rw[hdec] at estep
 have estep:VbemanNeutral.step st (((i:Int)::xs)::rows)=Vbeman.step st cc:=estep
 have hc1:=s1 _ _ hc
 have hdn1:=s1 _ _ hdn
 have hh1:=s1 _ _ hh
 refine⟨_,rfl,gC T hc1 rfl ⟨rfl,_,rfl,zb9 (λh2=>?_) (λh2=>?_)⟩⟩
 ·have h2:(i:Int)=0:=isI h2
  obtain⟨n,en,hn2,hn6,rfl⟩:zrn ((namesOf (i:Int)).zip xs) cc:=by
   rcases hRA with ⟨_,x⟩ | ⟨_,x⟩
   ·exact x
   ·exfalso
    rcases x with x | x | x | x | x | x
    ·rcases x with ⟨z,_⟩ | ⟨z,_⟩ | ⟨z,_⟩ <;> omega
    ·rcases x with ⟨z,_⟩ | ⟨z,_⟩ | ⟨z,_⟩ | ⟨z,_⟩ <;> omega
    ·rcases x with ⟨z,_⟩ | ⟨z,_⟩ | ⟨z,_⟩ | ⟨z,_⟩ | ⟨z,_⟩ <;> omega
    ·rcases x with ⟨z,_⟩ | ⟨z,_⟩ | ⟨z,_⟩ <;> omega
    ·rcases x with ⟨z,_⟩ | ⟨z,_⟩ | ⟨z,_⟩ | ⟨z,_⟩ <;> omega
    ·rcases x with ⟨z,_⟩ | ⟨z,_⟩ | ⟨z,_⟩ | ⟨z,_⟩ | ⟨z,_⟩ | ⟨z,_⟩ <;> omega
  rw[en] at hdn1
  have es:VbemanNeutral.step st (((i:Int)::xs)::rows)=(⟨some (zea n)⟩,[0]):=estep
  rw[es] at q
  refine⟨_,rfl,_,_,_,rfl,hh1,rfl,⟨_,rfl,gC T hc1 rfl ⟨_,_,rfl,zdc hdn1,?_⟩⟩⟩
  refine⟨h,n,rfl,dx,_,hh1,.inr ⟨S0,ll,lr,lb,bl,rfl⟩,λH2 ll2 lr2 lb2 bl2 f1 f2 f3 B hb2=>?_⟩
  have ml:=λa ha=>B.lst a ha
  have m1:=ml lb2 (List.mem_cons_self ..)
  have m2:=ml lr2 (List.mem_cons_of_mem _ (List.mem_cons_self ..))
  have m3:=ml ll2 (List.mem_cons_of_mem _ (List.mem_cons_of_mem _ (List.mem_cons_self ..)))
  have nd:=B.nd
  simp only [List.nodup_cons,List.mem_cons,List.not_mem_nil,or_false,not_or] at nd
  simp only [List.mem_cons,List.not_mem_nil,or_false,not_or] at f3
  have HH2:HouseAt A H2 h dx ll2 lr2 lb2 bl2 (zea n):=⟨B.obj,⟨[],m3.1,AllAt.nil⟩,⟨[],m2.1,AllAt.nil⟩,⟨[],m1.1,AllAt.nil⟩,hb2,λz=>nd.2.1 z.symm,λz=>f3.2.2 z.symm,λz=>f3.2.1 z.symm,λz=>f3.1 z.symm,λz=>nd.1.2 z.symm,zoY hn2 hn6⟩
  have K2:zit h ll lr lb bl H ll2 lr2 lb2 bl2 H2:=λb o e=>by
   obtain⟨m,e⟩:=zcS e
   have e:=s1 _ _ e
   have n1:b≠h:=(zrY m).1
   refine zcY (B.keep b o e n1) λz=>?_
   simp only [List.mem_cons,List.not_mem_nil,or_false] at z
   rcases z with z | z | z | z | z
   ·exact n1 z
   ·rw[z,m3.2.1] at e;cases e
   ·rw[z,m2.2.1] at e;cases e
   ·rw[z,m1.2.1] at e;cases e
   ·rw[z,f1] at e;cases e
  refine⟨by show 1≤sizeLine;decide,λp hp=>?_⟩
  have s3:Same H2 (upd H2 p (.lst [V.int 0])):=Same.upd hp
  exact q _ p ll2 lr2 lb2 bl2 ⟨dx,HH2.same s3⟩ (K2.trans (zcd s3)) (zeL K2 hp) (show 1≤1000 by decide) zbG
 have h2:(i:Int)≠0:=zih h2
 obtain⟨hno,hR⟩:zi4 cc=true∧(zlC (i:Int) ((namesOf (i:Int)).zip xs) cc∨zji (i:Int) ((namesOf (i:Int)).zip xs) cc∨zjh (i:Int) ((namesOf (i:Int)).zip xs) cc∨zo9 (i:Int) ((namesOf (i:Int)).zip xs) cc∨zqo (i:Int) ((namesOf (i:Int)).zip xs) rows cc∨zo8 (i:Int) ((namesOf (i:Int)).zip xs) cc):=by
  rcases hRA with ⟨z,_⟩ | x
  ·exact absurd z h2
  ·exact x
 refine⟨_,rfl,_,_,_,rfl,hh1,rfl,?_⟩
 refine⟨h,rfl,dx,S0,ll,lr,lb,bl,hh1,_,rfl,?_⟩
 cases eH:st.house with
 | none =>
  rw[hz0 eH]
  refine zgc ?_
  refine no s1 (ans:=[-2]) ?_ rfl (by decide)
  rw[estep,zmC hno eH]
 | some S =>
  obtain⟨HH,rfl⟩:=hS0 S eH
  have hzz:(!decide (0 < S0.zones))=false:=by
   rw[decide_eq_true (show 0 < S0.zones by have:=HH.good.z2;omega)];rfl
  rw[hzz]
  refine zi7 ?_
  have HH1:=HH.same s1
  rw[zmB hno eH] at estep
  rw[estep] at q
  have post:zlD A h ll lr lb bl H1 (Vbeman.onHouse S0 cc).1 (Vbeman.onHouse S0 cc).2 Q:=λH' p dx' ll' lr' lb' bl' hH' kp hp hl hpa=>q H' p ll' lr' lb' bl' ⟨dx',hH'⟩ ((zcd s1).trans kp) (by
   cases e:zeo [h,ll,lr,lb,bl] H p with
   | none=>rfl
   | some o=>rw[(zcd s1) _ _ e] at hp;cases hp) hl hpa
  refine⟨_,rfl,gC T hc1 rfl ⟨_,_,rfl,rfl,⟨_,rfl,?_⟩⟩⟩
  refine zb9 (λh3=>?_) (λh3=>?_)
  ·have h3:(i:Int)≤3:=of_decide_eq_true h3
   refine⟨_,rfl,⟨_,rfl,?_⟩⟩
   refine⟨h,c,rfl,dx,ll,lr,lb,bl,S0,(i:Int),dc,dn,dr,_,cc,HH1,hc1,hdn1,?_,post⟩
   rcases hR with x | x | x | x | x | x
   ·exact x
   ·exfalso;rcases x with ⟨z,_⟩ | ⟨z,_⟩ | ⟨z,_⟩ | ⟨z,_⟩ <;> omega
   ·exfalso;rcases x with ⟨z,_⟩ | ⟨z,_⟩ | ⟨z,_⟩ | ⟨z,_⟩ | ⟨z,_⟩ <;> omega
   ·exfalso;rcases x with ⟨z,_⟩ | ⟨z,_⟩ | ⟨z,_⟩ <;> omega
   ·exfalso;rcases x with ⟨z,_⟩ | ⟨z,_⟩ | ⟨z,_⟩ | ⟨z,_⟩ <;> omega
   ·exfalso;rcases x with ⟨z,_⟩ | ⟨z,_⟩ | ⟨z,_⟩ | ⟨z,_⟩ | ⟨z,_⟩ | ⟨z,_⟩ <;> omega
  have h3:¬(i:Int)≤3:=λz=>h3 (decide_eq_true z)
  refine⟨_,rfl,gC T hc1 rfl ⟨_,_,rfl,rfl,⟨_,rfl,?_⟩⟩⟩
  refine zb9 (λh4=>?_) (λh4=>?_)
  ·have h4:(i:Int)≤7:=of_decide_eq_true h4
   refine⟨_,rfl,⟨_,rfl,?_⟩⟩
   refine⟨h,c,rfl,dx,ll,lr,lb,bl,S0,(i:Int),dc,dn,dr,_,cc,HH1,hc1,hdn1,?_,post⟩
   rcases hR with x | x | x | x | x | x
   ·exfalso;rcases x with ⟨z,_⟩ | ⟨z,_⟩ | ⟨z,_⟩ <;> omega
   ·exact x
   ·exfalso;rcases x with ⟨z,_⟩ | ⟨z,_⟩ | ⟨z,_⟩ | ⟨z,_⟩ | ⟨z,_⟩ <;> omega
   ·exfalso;rcases x with ⟨z,_⟩ | ⟨z,_⟩ | ⟨z,_⟩ <;> omega
   ·exfalso;rcases x with ⟨z,_⟩ | ⟨z,_⟩ | ⟨z,_⟩ | ⟨z,_⟩ <;> omega
   ·exfalso;rcases x with ⟨z,_⟩ | ⟨z,_⟩ | ⟨z,_⟩ | ⟨z,_⟩ | ⟨z,_⟩ | ⟨z,_⟩ <;> omega
  have h4:¬(i:Int)≤7:=λz=>h4 (decide_eq_true z)
  refine⟨_,rfl,gC T hc1 rfl ⟨_,_,rfl,rfl,⟨_,rfl,?_⟩⟩⟩
  refine zb9 (λh5=>?_) (λh5=>?_)
  ·have h5:(i:Int)≤12:=of_decide_eq_true h5
   refine⟨_,rfl,⟨_,rfl,?_⟩⟩
   refine⟨h,c,rfl,dx,ll,lr,lb,bl,S0,(i:Int),dc,dn,dr,_,cc,HH1,hc1,hdn1,?_,post⟩
   rcases hR with x | x | x | x | x | x
   ·exfalso;rcases x with ⟨z,_⟩ | ⟨z,_⟩ | ⟨z,_⟩ <;> omega
   ·exfalso;rcases x with ⟨z,_⟩ | ⟨z,_⟩ | ⟨z,_⟩ | ⟨z,_⟩ <;> omega
   ·exact x
   ·exfalso;rcases x with ⟨z,_⟩ | ⟨z,_⟩ | ⟨z,_⟩ <;> omega
   ·exfalso;rcases x with ⟨z,_⟩ | ⟨z,_⟩ | ⟨z,_⟩ | ⟨z,_⟩ <;> omega
   ·exfalso;rcases x with ⟨z,_⟩ | ⟨z,_⟩ | ⟨z,_⟩ | ⟨z,_⟩ | ⟨z,_⟩ | ⟨z,_⟩ <;> omega
  have h5:¬(i:Int)≤12:=λz=>h5 (decide_eq_true z)
  refine⟨_,rfl,gC T hc1 rfl ⟨_,_,rfl,rfl,⟨_,rfl,?_⟩⟩⟩
  refine zb9 (λh6=>?_) (λh6=>?_)
  ·have h6:(i:Int)≤15:=of_decide_eq_true h6
   refine⟨_,rfl,⟨_,rfl,?_⟩⟩
   refine⟨h,c,rfl,dx,ll,lr,lb,bl,S0,(i:Int),dc,dn,dr,_,cc,HH1,hc1,hdn1,?_,post⟩
   rcases hR with x | x | x | x | x | x
   ·exfalso;rcases x with ⟨z,_⟩ | ⟨z,_⟩ | ⟨z,_⟩ <;> omega
   ·exfalso;rcases x with ⟨z,_⟩ | ⟨z,_⟩ | ⟨z,_⟩ | ⟨z,_⟩ <;> omega
   ·exfalso;rcases x with ⟨z,_⟩ | ⟨z,_⟩ | ⟨z,_⟩ | ⟨z,_⟩ | ⟨z,_⟩ <;> omega
   ·exact x
   ·exfalso;rcases x with ⟨z,_⟩ | ⟨z,_⟩ | ⟨z,_⟩ | ⟨z,_⟩ <;> omega
   ·exfalso;rcases x with ⟨z,_⟩ | ⟨z,_⟩ | ⟨z,_⟩ | ⟨z,_⟩ | ⟨z,_⟩ | ⟨z,_⟩ <;> omega
  have h6:¬(i:Int)≤15:=λz=>h6 (decide_eq_true z)
  refine⟨_,rfl,gC T hc1 rfl ⟨_,_,rfl,rfl,⟨_,rfl,?_⟩⟩⟩
  refine zb9 (λh7=>?_) (λh7=>?_)
  ·have h7:(i:Int)≤19:=of_decide_eq_true h7
   refine⟨_,rfl,⟨_,rfl,?_⟩⟩
   refine⟨h,c,rfl,dx,ll,lr,lb,bl,S0,(i:Int),dc,dn,dr,_,ra,rows,cc,HH1,hc1,hdn1,s1 _ _ hdr,hra.imp λa r z=>s1 _ _ z,hnb,?_,post⟩
   rcases hR with x | x | x | x | x | x
   ·exfalso;rcases x with ⟨z,_⟩ | ⟨z,_⟩ | ⟨z,_⟩ <;> omega
   ·exfalso;rcases x with ⟨z,_⟩ | ⟨z,_⟩ | ⟨z,_⟩ | ⟨z,_⟩ <;> omega
   ·exfalso;rcases x with ⟨z,_⟩ | ⟨z,_⟩ | ⟨z,_⟩ | ⟨z,_⟩ | ⟨z,_⟩ <;> omega
   ·exfalso;rcases x with ⟨z,_⟩ | ⟨z,_⟩ | ⟨z,_⟩ <;> omega
   ·exact x
   ·exfalso;rcases x with ⟨z,_⟩ | ⟨z,_⟩ | ⟨z,_⟩ | ⟨z,_⟩ | ⟨z,_⟩ | ⟨z,_⟩ <;> omega
  have h7:¬(i:Int)≤19:=λz=>h7 (decide_eq_true z)
  refine⟨_,rfl,⟨_,rfl,?_⟩⟩
  refine⟨h,c,rfl,dx,ll,lr,lb,bl,S0,(i:Int),dc,dn,dr,_,cc,HH1,hc1,hdn1,?_,post⟩
  rcases hR with x | x | x | x | x | x
  ·exfalso;rcases x with ⟨z,_⟩ | ⟨z,_⟩ | ⟨z,_⟩ <;> omega
  ·exfalso;rcases x with ⟨z,_⟩ | ⟨z,_⟩ | ⟨z,_⟩ | ⟨z,_⟩ <;> omega
  ·exfalso;rcases x with ⟨z,_⟩ | ⟨z,_⟩ | ⟨z,_⟩ | ⟨z,_⟩ | ⟨z,_⟩ <;> omega
  ·exfalso;rcases x with ⟨z,_⟩ | ⟨z,_⟩ | ⟨z,_⟩ <;> omega
  ·exfalso;rcases x with ⟨z,_⟩ | ⟨z,_⟩ | ⟨z,_⟩ | ⟨z,_⟩ <;> omega
  ·exact x
end
end Z
namespace Z
open PySem PySem.Spec PyProof.Rows L2
open Vbeman (Line Right House Bid)
theorem zlI {c:List (List Int)} (h:zr9 c):PyVbeman.whole c=c:=by
 obtain⟨p,xs,rows,n,k,rfl,hsh,hxl,hrl,_⟩:=h
 obtain⟨i,hi,ei⟩:=ze9 hsh
 subst ei
 obtain⟨e1,e2,_⟩:=ziA hi hsh
 exact (zpd hi (by rw[hxl,e1]) (by rw[hrl,e2])).2
theorem zkS {l:List Int} (hz:l.length≤17000) (h:PyVbeman.answers_asked l=true):∃cs,PyFlat.calls PyVbeman.shape l.length l=some cs∧cs.length≤200∧PyVbeman.answers l=PyFlat.told (PyFlat.played VbemanNeutral.step VbemanNeutral.start cs):=by
 unfold PyVbeman.answers_asked at h
 unfold PyVbeman.answers
 cases e:PyFlat.calls PyVbeman.shape l.length l with
 | none =>
  have e2:PyVbeman.calls l=none:=by unfold PyVbeman.calls;rw[e]
  rw[e2] at h;cases h
 | some cs =>
  have e2:PyVbeman.calls l=some cs:=by
   unfold PyVbeman.calls
   rw[e]
   show some (cs.map PyVbeman.whole)=some cs
   exact congrArg some ((List.map_congr_left (f:=PyVbeman.whole) (g:=id) λc hc=>zlI (zgi (by omega) e c hc)).trans (List.map_id _))
  rw[e2] at h ⊢
  have h:(PyFlat.atMost 200 cs && VbemanNeutral.asked cs)=true:=h
  rw[Bool.and_eq_true] at h
  exact⟨cs,rfl,of_decide_eq_true h.1,rfl⟩
section
variable {P : Program} {w : World} {K : PySem.W.Frag} {mg : Str → Option Value} {base : Heap} {A : Ad} {f : Addr} {fd : FuncData}
abbrev zdN:=top 110
theorem zl5 (F:Fun K "answers" "answers" zdN f fd) (T:Txt K mg A) (zbs:zn4 P w K mg base A) (zaV:zgB P w K mg base A) (zad:zhH P w K mg base A):FnOk P w K mg base CX0 10 f fd ["calls"] (zpL K):=by
 have sc:FnScope ["calls","house","told","call","answer"] ["calls"] (zbK zdN):=fsc
 refine F.ok sc (by rintro _ _ _ _ ⟨a,rfl,_⟩;rfl) λcdv Ar outer s H vs Q E hr h=>?_
 obtain⟨a,rfl,h⟩:=h
 refine⟨_,(zbC (zbP (i:=1) sc.nd rfl (by first | exact Or.inl rfl | exact Or.inr rfl) (zm1 zbs (hr.mono (by decide)) (by rfl))) (zbC (zbP (i:=2) sc.nd rfl (by first | exact Or.inl rfl | exact Or.inr rfl) (zbQ zbD)) (zbC (zdv PassesOwn.never rfl (zcD (zbH zaV (hr.mono (by decide)) (by rfl) (zbB (pv 0) zbD))) (zbW (i:=3) sc.nd (by rfl) (by first | exact Or.inl rfl | exact Or.inr rfl) (by first | exact Or.inl rfl | exact Or.inr rfl)) (zbC (zbP (i:=4) sc.nd rfl (by first | exact Or.inl rfl | exact Or.inr rfl) (zbH zad (hr.mono (by decide)) (by rfl) (zbB (pv 1) (zbB (pv 3) zbD)))) (zbC (zcf (zeF PySem.F.plainAttrs_list PySem.F.slot_list_append PySem.F.type_list_append zcX (pv 2) (zbB (zbT zcc (by rfl) T.n_len (by decide +kernel) (zbB (pv 4) zbD)) zbD))) (zbF (zcf (zeF PySem.F.plainAttrs_list PySem.F.slot_list_extend PySem.F.type_list_extend zdx (pv 2) (zbB (pv 4) zbD))))))) (zbF (zbJ (pv 2)))))),?_⟩
 obtain⟨l,hl,hz,hask,q⟩:=h
 obtain⟨cs,hcs,hn,hans⟩:=zkS hz hask
 intro h dx nx nd ne
 refine⟨h,rfl,dx,zbG,λH1 ll lr lb bl f1 f2 f3 B hbl=>⟨rfl,?_⟩⟩
 have h1:=B.obj
 have hlb:=(B.lst lb (List.mem_cons_self ..)).1
 have hlr:=(B.lst lr (List.mem_cons_of_mem _ (List.mem_cons_self ..))).1
 have hll:=(B.lst ll (List.mem_cons_of_mem _ (List.mem_cons_of_mem _ (List.mem_cons_self ..)))).1
 have k1:=B.keep
 have s1:Same H H1:=λb o e=>by
  have m1:=zbI e nx
  have m2:=zbI e nd
  exact k1 b o (by rw[zbL m1,zbL m2];exact e) m1
 refine⟨by show 0≤sizeLine;decide,λD hD=>?_⟩
 have s2:Same H1 (upd H1 D (.lst [])):=Same.upd hD
 have hD2:(upd H1 D (.lst [])) D=some (.lst []):=zbG
 generalize (upd H1 D (.lst []))=H2 at s2 hD2 ⊢
 refine⟨_,rfl,a,rfl,l,cs,(s1.trans s2).seq hl,by omega,⟨_,hcs⟩,λH3 pc s3 hpc hC=>?_⟩
 have hC3:CallsAt A (zeo [D,h,ll,lr,lb,bl] H3) pc (cs.map toP):=by
  refine hC.same λb o e=>?_
  obtain⟨m,e⟩:=zlt e
  refine zcY e λz=>?_
  rcases List.mem_cons.mp z with z | z
  ·rw[z,hD2] at m;cases m
  rcases List.mem_cons.mp z with z | z
  ·rw[z,s2 _ _ h1] at m;cases m
  rcases List.mem_cons.mp z with z | z
  ·rw[z,s2 _ _ hll] at m;cases m
  rcases List.mem_cons.mp z with z | z
  ·rw[z,s2 _ _ hlr] at m;cases m
  rcases List.mem_cons.mp z with z | z
  ·rw[z,s2 _ _ hlb] at m;cases m
  ·rw[List.mem_singleton.mp z,s2 _ _ hbl] at m;cases m
 obtain⟨as,hpl,hA⟩:=id hC3
 have hpl3:H3 pc=some (.lst (as.map V.ref)):=zdD _ _ hpl
 have eN:(as.map V.ref).length=cs.length:=by rw[List.length_map,hA.1,List.length_map]
 have nD:D ∉ [h,ll,lr,lb,bl]:=λz=>by
  rcases List.mem_cons.mp z with z | z
  ·rw[z,h1] at hD;cases hD
  rcases List.mem_cons.mp z with z | z
  ·rw[z,hll] at hD;cases hD
  rcases List.mem_cons.mp z with z | z
  ·rw[z,hlr] at hD;cases hD
  rcases List.mem_cons.mp z with z | z
  ·rw[z,hlb] at hD;cases hD
  ·rw[List.mem_singleton.mp z,hbl] at hD;cases hD
 refine⟨pc,rfl,⟨_,SqL.of hpl3⟩,?_⟩
 refine zcR (K:=K) (xs:=as.map V.ref) (λi σ H'=>∃ll lr lb bl o3 o4,σ=[some (.ref a),some (.ref h),some (.ref D),o3,o4]∧LoopAt A H' h ll lr lb bl D pc cs i∧H' pc=some (.lst (as.map V.ref))) ?_ (λi σ H' _ h=>?_) (λi x σ H' hx h'=>?_) (λσ H' h'=>?_)
 ·exact⟨ll,lr,lb,bl,none,none,rfl,⟨⟨dx,s3 _ _ (s2 _ _ h1)⟩,zcY (s3 _ _ hD2) nD,hC3,Nat.le_refl _⟩,hpl3⟩
 ·obtain⟨_,_,_,_,_,_,_,_,z⟩:=h
  exact SqL.of z
 ·obtain⟨ll,lr,lb,bl,o3,o4,rfl,L,hpcl⟩:=h'
  obtain⟨as',hpl',hA'⟩:=L.calls
  have eas:as'=as:=by
   have e:=zdD _ _ hpl'
   rw[hpcl] at e
   injection e with e
   injection e with e
   exact (List.map_inj_right (λ_ _ z=>by injection z)).mp e.symm
  subst eas
  obtain⟨c,pcl,rfl,hc',hCA⟩:=hA'.get hx
  rw[List.getElem?_map] at hc'
  cases ec:cs[i]? with
  | none=>rw[ec] at hc';cases hc'
  | some call =>
   rw[ec] at hc'
   cases hc'
   have hsub:Same (zeo [D,h,ll,lr,lb,bl] H') (zeo [h,ll,lr,lb,bl] H'):=zj1 λb hb=>List.mem_cons_of_mem _ hb
   refine⟨_,rfl,⟨_,rfl,?_⟩⟩
   refine⟨h,c,rfl,ll,lr,lb,bl,_,call,L.st,hCA.same hsub,zgi (by omega) hcs call (List.mem_of_getElem? ec),λH1 p ll' lr' lb' bl' St1 K1 hpn hzz hp=>?_⟩
   have hD1:=K1 _ _ L.told
   obtain⟨nD1,hD1'⟩:=zcS hD1
   have npD:p≠D:=λz=>by rw[z,L.told] at hpn;cases hpn
   have hi:i < cs.length:=(List.getElem?_eq_some_iff.mp ec).1
   have hlen:=L.len
   have eplay:=zhd VbemanNeutral.start (cs.take i) call
   rw[←L2.zb4 ec] at eplay
   have etold:=congrArg PyFlat.told eplay
   rw[zmy] at etold
   refine⟨_,rfl,.inl ⟨rfl,_,SqL.of hD1'⟩,_,rfl,_,_,rfl,.inl ⟨_,SqL.of hp,rfl⟩,D,_,_,rfl,rfl,hD1',?_,?_⟩
   ·rw[List.length_map]
    exact Nat.lt_of_le_of_lt (show _≤1001 * 200 by omega) (by decide)
   refine⟨_,rfl,.inl ⟨rfl,_,SqL.of zbG⟩,_,rfl,D,p,_,_,rfl,rfl,zbG,by rw[zbL npD];exact hp,?_,?_⟩
   ·rw[List.length_append,List.length_map,List.length_map,List.length_singleton]
    exact Nat.le_trans (show _≤1001 * 200 + 1 + 1000 by omega) (by decide)
   rw[zcg]
   refine⟨ll',lr',lb',bl',_,_,rfl,⟨?_,?_,?_,?_⟩,?_⟩
   ·have e2:=zmm VbemanNeutral.start (cs.take i) call
    rw[←L2.zb4 ec] at e2
    rw[e2]
    exact St1.updD hD1
   ·refine zcY ?_ nD1
    rw[zbG,etold,List.map_append,List.map_cons,List.length_map,List.append_assoc]
    rfl
   ·rw[zi8 (List.mem_cons_self ..)]
    refine L.calls.same λb o e=>?_
    obtain⟨m,e⟩:=zcS e
    have e3:=K1 _ _ (zcY e λz=>m (List.mem_cons_of_mem _ z))
    obtain⟨m2,e3⟩:=zcS e3
    refine zcY e3 λz=>?_
    rcases List.mem_cons.mp z with z | z
    ·exact m (by rw[z];exact List.mem_cons_self ..)
    ·exact m2 z
   ·rw[etold,List.length_append,List.length_cons]
    omega
   ·have e3:=K1 _ _ (hsub _ _ hpl')
    obtain⟨m2,e3⟩:=zcS e3
    have:pc≠D:=λz=>(zcS hpl').1 (by rw[z];exact List.mem_cons_self ..)
    rw[zbL this];exact e3
 ·obtain⟨ll,lr,lb,bl,o3,o4,rfl,L,_⟩:=h'
  refine⟨_,rfl,?_⟩
  have:=L.told
  rw[eN,List.take_length,←hans] at this
  exact q _ D (zdD _ _ this)
end
end Z
namespace Z
open PySem PySem.Spec PyProof.Rows L2
open PySem.W (Codec)
abbrev Fd (K:PySem.W.Frag) (x:Str) (s:Stmt):Prop:=∃f fd,PySem.W.nsIn K mainGlobals x=some (some (.ref f))∧Fun K x x s f fd
abbrev Md (K:PySem.W.Frag) (C:Addr) (m q:Str) (s:Stmt):Prop:=∃f fd,PySem.W.findIn K (.ref C) m=some (some (.ref f))∧PySem.W.isFn K (.ref f)=true∧Fun K m q s f fd
theorem ln1 {α:Type} {P:List α→Prop} (h:∀a0,P [a0]) (l:List α) (e:l.length=1):P l:=by
 obtain⟨a0,l0,rfl,e0⟩:=zcl e
 obtain rfl:=zcQ e0
 exact h _
theorem ln2 {α:Type} {P:List α→Prop} (h:∀a0 a1,P [a0,a1]) (l:List α) (e:l.length=2):P l:=by
 obtain⟨a0,l0,rfl,e0⟩:=zcl e
 obtain⟨a1,l1,rfl,e1⟩:=zcl e0
 obtain rfl:=zcQ e1
 exact h _ _
theorem ln3 {α:Type} {P:List α→Prop} (h:∀a0 a1 a2,P [a0,a1,a2]) (l:List α) (e:l.length=3):P l:=by
 obtain⟨a0,l0,rfl,e0⟩:=zcl e
 obtain⟨a1,l1,rfl,e1⟩:=zcl e0
 obtain⟨a2,l2,rfl,e2⟩:=zcl e1
 obtain rfl:=zcQ e2
 exact h _ _ _
theorem ln4 {α:Type} {P:List α→Prop} (h:∀a0 a1 a2 a3,P [a0,a1,a2,a3]) (l:List α) (e:l.length=4):P l:=by
 obtain⟨a0,l0,rfl,e0⟩:=zcl e
 obtain⟨a1,l1,rfl,e1⟩:=zcl e0
 obtain⟨a2,l2,rfl,e2⟩:=zcl e1
 obtain⟨a3,l3,rfl,e3⟩:=zcl e2
 obtain rfl:=zcQ e3
 exact h _ _ _ _
theorem ln5 {α:Type} {P:List α→Prop} (h:∀a0 a1 a2 a3 a4,P [a0,a1,a2,a3,a4]) (l:List α) (e:l.length=5):P l:=by
 obtain⟨a0,l0,rfl,e0⟩:=zcl e
 obtain⟨a1,l1,rfl,e1⟩:=zcl e0
 obtain⟨a2,l2,rfl,e2⟩:=zcl e1
 obtain⟨a3,l3,rfl,e3⟩:=zcl e2
 obtain⟨a4,l4,rfl,e4⟩:=zcl e3
 obtain rfl:=zcQ e4
 exact h _ _ _ _ _
theorem ln6 {α:Type} {P:List α→Prop} (h:∀a0 a1 a2 a3 a4 a5,P [a0,a1,a2,a3,a4,a5]) (l:List α) (e:l.length=6):P l:=by
 obtain⟨a0,l0,rfl,e0⟩:=zcl e
 obtain⟨a1,l1,rfl,e1⟩:=zcl e0
 obtain⟨a2,l2,rfl,e2⟩:=zcl e1
 obtain⟨a3,l3,rfl,e3⟩:=zcl e2
 obtain⟨a4,l4,rfl,e4⟩:=zcl e3
 obtain⟨a5,l5,rfl,e5⟩:=zcl e4
 obtain rfl:=zcQ e5
 exact h _ _ _ _ _ _
theorem ln7 {α:Type} {P:List α→Prop} (h:∀a0 a1 a2 a3 a4 a5 a6,P [a0,a1,a2,a3,a4,a5,a6]) (l:List α) (e:l.length=7):P l:=by
 obtain⟨a0,l0,rfl,e0⟩:=zcl e
 obtain⟨a1,l1,rfl,e1⟩:=zcl e0
 obtain⟨a2,l2,rfl,e2⟩:=zcl e1
 obtain⟨a3,l3,rfl,e3⟩:=zcl e2
 obtain⟨a4,l4,rfl,e4⟩:=zcl e3
 obtain⟨a5,l5,rfl,e5⟩:=zcl e4
 obtain⟨a6,l6,rfl,e6⟩:=zcl e5
 obtain rfl:=zcQ e6
 exact h _ _ _ _ _ _ _
theorem ln8 {α:Type} {P:List α→Prop} (h:∀a0 a1 a2 a3 a4 a5 a6 a7,P [a0,a1,a2,a3,a4,a5,a6,a7]) (l:List α) (e:l.length=8):P l:=by
 obtain⟨a0,l0,rfl,e0⟩:=zcl e
 obtain⟨a1,l1,rfl,e1⟩:=zcl e0
 obtain⟨a2,l2,rfl,e2⟩:=zcl e1
 obtain⟨a3,l3,rfl,e3⟩:=zcl e2
 obtain⟨a4,l4,rfl,e4⟩:=zcl e3
 obtain⟨a5,l5,rfl,e5⟩:=zcl e4
 obtain⟨a6,l6,rfl,e6⟩:=zcl e5
 obtain⟨a7,l7,rfl,e7⟩:=zcl e6
 obtain rfl:=zcQ e7
 exact h _ _ _ _ _ _ _ _
section
variable {P : Program} {w : World} {K : PySem.W.Frag} {mg : Str → Option Value} {base h : Heap} {s : Stmt} {k : Nat} {ps : List Str} {sp : Sp} {x q : Str} {C : Addr}
abbrev Bd (x q:Str) (s:Stmt) (ps:List Str):Prop:=∀(kV doc pm:Value) (an:Option Addr) (cdv ct:Value) (us:List Value),us.length=ps.length→bindArgs (PySem.W.fnOf x q (zgg s) (zfr s) (zbK s) .none kV doc pm an cdv ct) ⟨us,[]⟩=pure (ps.zip us)
theorem mkI (X:K.In h) (G:h.Ns mainGlobals mg) (D:Fd K x s) (ok:∀f fd,Fun K x x s f fd→FnOk P w K mg base CX0 k f fd ps sp) (hb:Bd x x s ps:=by first | exact λ_ _ _ _ _ _=>ln2 λ_ _=>rfl | exact λ_ _ _ _ _ _=>ln1 λ_=>rfl | exact λ_ _ _ _ _ _=>ln3 λ_ _ _=>rfl | exact λ_ _ _ _ _ _=>ln4 λ_ _ _ _=>rfl | exact λ_ _ _ _ _ _=>ln5 λ_ _ _ _ _=>rfl | exact λ_ _ _ _ _ _=>ln6 λ_ _ _ _ _ _=>rfl | exact λ_ _ _ _ _ _=>ln7 λ_ _ _ _ _ _ _=>rfl | exact λ_ _ _ _ _ _=>ln8 λ_ _ _ _ _ _ _ _=>rfl):FnI P w K mg base x k ps sp:=by
 obtain⟨f,fd,a,u⟩:=D
 exact⟨f,fd,ok f fd u,PySem.W.mg_of X G a,u.kp,u.binds hb⟩
theorem mkM (c:Cls K C) (D:Md K C x q s) (ok:∀f fd,Fun K x q s f fd→FnOk P w K mg base CX0 k f fd ps sp) (hb:Bd x q s ps:=by first | exact λ_ _ _ _ _ _=>ln2 λ_ _=>rfl | exact λ_ _ _ _ _ _=>ln1 λ_=>rfl | exact λ_ _ _ _ _ _=>ln3 λ_ _ _=>rfl | exact λ_ _ _ _ _ _=>ln4 λ_ _ _ _=>rfl | exact λ_ _ _ _ _ _=>ln5 λ_ _ _ _ _=>rfl | exact λ_ _ _ _ _ _=>ln6 λ_ _ _ _ _ _=>rfl | exact λ_ _ _ _ _ _=>ln7 λ_ _ _ _ _ _ _=>rfl | exact λ_ _ _ _ _ _=>ln8 λ_ _ _ _ _ _ _ _=>rfl):MtI P w K mg base C x k ps sp:=by
 obtain⟨f,fd,a,i,u⟩:=D
 exact⟨f,fd,ok f fd u,c,⟨a,i,u.kp⟩,u.binds hb⟩
theorem mkJ {y:Str} (X:K.In h) (G:h.Ns mainGlobals mg) (ac:PySem.W.nsIn K mainGlobals y=some (some (.ref C))) (mk:PySem.W.makesIn K C=true) (kc:PySem.W.keepIn K (.ref C)=true) (D:Md K C "__init__" q s) (ok:∀f fd,Fun K "__init__" q s f fd→FnOk P w K mg base CX0 k f fd ps sp) (hb:Bd "__init__" q s ps:=by first | exact λ_ _ _ _ _ _=>ln2 λ_ _=>rfl | exact λ_ _ _ _ _ _=>ln1 λ_=>rfl | exact λ_ _ _ _ _ _=>ln3 λ_ _ _=>rfl | exact λ_ _ _ _ _ _=>ln4 λ_ _ _ _=>rfl | exact λ_ _ _ _ _ _=>ln5 λ_ _ _ _ _=>rfl | exact λ_ _ _ _ _ _=>ln6 λ_ _ _ _ _ _=>rfl | exact λ_ _ _ _ _ _=>ln7 λ_ _ _ _ _ _ _=>rfl | exact λ_ _ _ _ _ _=>ln8 λ_ _ _ _ _ _ _ _=>rfl):MkI P w K mg base y C k ps sp:=by
 obtain⟨f,fd,a,i,u⟩:=D
 exact⟨f,fd,ok f fd u,PySem.W.mg_of X G ac,⟨mk,a,i,kc⟩,u.binds hb⟩
end
theorem zko {K:PySem.W.Frag}:∀{as:List Addr} {xs:List (List Str)},Paired (λa x=>∀H:Hp,SqT K H a (x.map V.str)) as xs→as.length=xs.length∧∀(i:Nat) a x,as[i]? = some a→xs[i]? = some x→∀H,SqT K H a (x.map V.str)
 | _,_,.nil=>⟨rfl,λi a x h=>by simp at h⟩
 | _,_,.cons r t=>⟨by rw[List.length_cons,List.length_cons,(zko t).1],λi a x h1 h2=>match i,h1,h2 with
  | 0,h1,h2=>by cases h1;cases h2;exact r
  | i + 1,h1,h2=>(zko t).2 i a x h1 h2⟩
theorem zmU {K:PySem.W.Frag}:∀{xs:List (Str×Int×Int)} {as:List Addr},Paired (λ(x:Str×Int×Int) a=>∀H:Hp,SqT K H a [.int x.2.1,.int x.2.2]) xs as→∀(i:Nat) x a,xs[i]? = some x→as[i]? = some a→∀H,SqT K H a [.int x.2.1,.int x.2.2]
 | _,_,.nil=>λi a x h=>by simp at h
 | _,_,.cons r t=>λi x a h1 h2=>match i,h1,h2 with
  | 0,h1,h2=>by cases h1;cases h2;exact r
  | i + 1,h1,h2=>zmU t i x a h1 h2
theorem zmT {K:PySem.W.Frag}:∀{xs:List (Int×List Str)} {as:List Addr},Paired (λ(x:Int×List Str) a=>∀H:Hp,SqT K H a (x.2.map V.str)) xs as→∀(i:Nat) x a,xs[i]? = some x→as[i]? = some a→∀H,SqT K H a (x.2.map V.str)
 | _,_,.nil=>λi a x h=>by simp at h
 | _,_,.cons r t=>λi x a h1 h2=>match i,h1,h2 with
  | 0,h1,h2=>by cases h1;cases h2;exact r
  | i + 1,h1,h2=>zmT t i x a h1 h2
theorem zrl {P:Program} {w:World} {K:PySem.W.Frag} {h:Heap} {mg:Str→Option Value} {fa:Addr} (X:K.In h) (G:h.Ns mainGlobals mg) (hfa:mg "answers"=some (.ref fa))
  {C_Line C_Right C_Bid C_House C_Call A_WEIGHTS A_GROUP_COUNTS A_NUMBER_NAMES A_ROW_NAMES A_RANGES r31 r32 r33 r34 r35 r36 r37 r38 r39 r40 r41 r42 r43 r44 r45 r46 r47 r48 r49 r50 r51 r52 r53 r54 r55 r56 r58 r60 r62 r64 r66 r68 r70 r72 r74 r76 r78 r80 r82 r84 r86 r88 r90 r92 r94 r96 r98 r100 r102 r104 r106:Addr}
  {t1 t2 t3 t4 t5 t6 t7 t8 t9 t10 t11 t12 t13 t14 t15 t16 t17 t18 t19 t20 t21 t22 t23 t24 t25 t26 t27 t28 t29 t30 t57 t59 t61 t63 t65 t67 t69 t71 t73 t75 t77 t79 t81 t83 t85 t87 t89 t91 t93 t95 t97 t99 t101 t103 t105 t107 t108 t109 t110 t111 t112 t113 t114 t115 t116 t117 t118 t119 t120 t121 t122 t123 t124 t125 t126 t127 t128 t129 t130 t131 t132 t133 t134 t135 t136 t137 t138 t139 t140 t141 t142 t143 t144 t145 t146 t147 t148 t149 t150 t151 t152 t153 t154 t155 t156 t157 t158 t159 t160 t161 t162 t163 t164 t165 t166 t167 t168 t169 t170 t171 t172 t173 t174 t175 t176 t177 t178 t179 t180 t181 t182 t183 t184 t185 t186 t187 t188 t189 t190 t191 t192 t193 t194 t195 t196 t197 t198 t199 t200 t201:Tok}
  {n1 n2 n3 n4 n5 n6 n7 n8 n9 n10 n11 n12 n13 n14 n15 n16 n17 n18 n19 n20 n21 n22 n23 n24 n25 n26 n27 n28 n29 n30 n31 n32 n33 n34 n35 n36 n37 n38 n39 n40 n41 n42 n43 n44 n45 n46 n47 n48 n49 n50 n51 n52 n53 n54 n55 n56:Nat}
  {o1 o2 o3 o6 o7 o8 o9 o10 o11 o12 o13 o14 o15 o16 o17 o18 o19 o20 o21 o22 o23 o24 o25 o26 o27 o28 o29 o30 o31 o32 o33 o34 o35 o36 o37 o38 o39 o40 o41 o42 o43 o44 o45 o46 o47 o48 o49 o50 o51 o52 o53 o54 o55 o56:Option Addr}
  {m1 m2 m3 m6 m7 m8 m9 m10 m11 m12 m13 m14 m15 m16 m17 m18 m19 m20 m21 m22 m23 m24 m25 m26 m27 m28 m29 m30 m31 m32 m33 m34 m35 m36 m37 m38 m39 m40 m41 m42 m43 m44 m45 m46 m47 m48 m49 m50 m51 m52 m53 m54 m55 m56:Array (Option Value)}
  (aC_Line:PySem.W.nsIn K mainGlobals "Line"=some (some (.ref C_Line)))
  (q_Line:Cls K C_Line)
  (mk_Line:PySem.W.makesIn K C_Line=true)
  (kc_Line:PySem.W.keepIn K (.ref C_Line)=true)
  (aC_Right:PySem.W.nsIn K mainGlobals "Right"=some (some (.ref C_Right)))
  (q_Right:Cls K C_Right)
  (mk_Right:PySem.W.makesIn K C_Right=true)
  (kc_Right:PySem.W.keepIn K (.ref C_Right)=true)
  (aC_Bid:PySem.W.nsIn K mainGlobals "Bid"=some (some (.ref C_Bid)))
  (q_Bid:Cls K C_Bid)
  (mk_Bid:PySem.W.makesIn K C_Bid=true)
  (kc_Bid:PySem.W.keepIn K (.ref C_Bid)=true)
  (aC_House:PySem.W.nsIn K mainGlobals "House"=some (some (.ref C_House)))
  (q_House:Cls K C_House)
  (mk_House:PySem.W.makesIn K C_House=true)
  (kc_House:PySem.W.keepIn K (.ref C_House)=true)
  (aC_Call:PySem.W.nsIn K mainGlobals "Call"=some (some (.ref C_Call)))
  (q_Call:Cls K C_Call)
  (mk_Call:PySem.W.makesIn K C_Call=true)
  (kc_Call:PySem.W.keepIn K (.ref C_Call)=true)
  (n_Line_first:PySem.W.findIn K (.ref C_Line) "first"=some none)
  (n_Line_second:PySem.W.findIn K (.ref C_Line) "second"=some none)
  (n_Line_forth:PySem.W.findIn K (.ref C_Line) "forth"=some none)
  (n_Line_back:PySem.W.findIn K (.ref C_Line) "back"=some none)
  (n_Right_number:PySem.W.findIn K (.ref C_Right) "number"=some none)
  (n_Right_owner:PySem.W.findIn K (.ref C_Right) "owner"=some none)
  (n_Right_source:PySem.W.findIn K (.ref C_Right) "source"=some none)
  (n_Right_sink:PySem.W.findIn K (.ref C_Right) "sink"=some none)
  (n_Right_kind:PySem.W.findIn K (.ref C_Right) "kind"=some none)
  (n_Right_amount:PySem.W.findIn K (.ref C_Right) "amount"=some none)
  (n_Bid_number:PySem.W.findIn K (.ref C_Bid) "number"=some none)
  (n_Bid_owner:PySem.W.findIn K (.ref C_Bid) "owner"=some none)
  (n_Bid_source:PySem.W.findIn K (.ref C_Bid) "source"=some none)
  (n_Bid_sink:PySem.W.findIn K (.ref C_Bid) "sink"=some none)
  (n_Bid_kind:PySem.W.findIn K (.ref C_Bid) "kind"=some none)
  (n_Bid_left:PySem.W.findIn K (.ref C_Bid) "left"=some none)
  (n_Bid_price:PySem.W.findIn K (.ref C_Bid) "price"=some none)
  (n_House_zones:PySem.W.findIn K (.ref C_House) "zones"=some none)
  (n_House_lines:PySem.W.findIn K (.ref C_House) "lines"=some none)
  (n_House_rights:PySem.W.findIn K (.ref C_House) "rights"=some none)
  (n_House_bids:PySem.W.findIn K (.ref C_House) "bids"=some none)
  (n_House_next_number:PySem.W.findIn K (.ref C_House) "next_number"=some none)
  (n_House_next_bid_number:PySem.W.findIn K (.ref C_House) "next_bid_number"=some none)
  (n_House_balances:PySem.W.findIn K (.ref C_House) "balances"=some none)
  (n_House_till:PySem.W.findIn K (.ref C_House) "till"=some none)
  (n_House_sales:PySem.W.findIn K (.ref C_House) "sales"=some none)
  (n_House_cash:PySem.W.findIn K (.ref C_House) "cash"=some none)
  (n_Call_place:PySem.W.findIn K (.ref C_Call) "place"=some none)
  (n_Call_numbers:PySem.W.findIn K (.ref C_Call) "numbers"=some none)
  (n_Call_rows:PySem.W.findIn K (.ref C_Call) "rows"=some none)
  (D0:Md K C_Line "__init__" "Line.__init__" zfl)
  (D1:Md K C_Right "__init__" "Right.__init__" zeA)
  (D2:Md K C_Bid "__init__" "Bid.__init__" zf3)
  (D3:Md K C_House "begin" "House.begin" zd5)
  (D4:Md K C_House "is_begun" "House.is_begun" zdf)
  (D5:Md K C_House "has_way" "House.has_way" zdt)
  (D6:Md K C_House "pay" "House.pay" zfm)
  (D7:Fd K "cost_at" zg9)
  (D8:Fd K "find_numbered" zds)
  (D9:Fd K "holds" zkt)
  (D10:Md K C_Call "__init__" "Call.__init__" zfn)
  (D11:Fd K "read_numbers" zdF)
  (D12:Fd K "is_in_range" zd3)
  (D13:Fd K "counted" zg8)
  (D14:Fd K "rank_of" zg4)
  (D15:Fd K "tell_accounts" zdo)
  (D16:Fd K "rise" zmO)
  (D17:Fd K "row_of_lines" zdE)
  (D18:Fd K "row_of_rights" zdq)
  (D19:Fd K "row_of_bids" zd0)
  (D20:Fd K "are_two_of_one_owner_and_kind" zcb)
  (D21:Fd K "have_both" zff)
  (D22:Md K C_House "__init__" "House.__init__" zeC)
  (D23:Md K C_House "sell" "House.sell" zeB)
  (D24:Fd K "held_for" zfZ)
  (D25:Fd K "enters" ziJ)
  (D26:Fd K "is_row_as_told" zde)
  (D27:Fd K "row_of_cuts" zdZ)
  (D28:Fd K "worth" zks)
  (D29:Fd K "earned_by" zfj)
  (D30:Fd K "fits" zmQ)
  (D31:Fd K "rent" zmP)
  (D32:Fd K "tell_rights" zdW)
  (D33:Fd K "tell_state" zeu)
  (D34:Md K C_House "free" "House.free" zeD)
  (D35:Fd K "with_amount" zdV)
  (D36:Fd K "with_left" zfa)
  (D37:Fd K "with_owner" zer)
  (D38:Fd K "with_rooms" zeq)
  (D39:Fd K "promised_by" zd1)
  (D40:Fd K "room_of" zg3)
  (D41:Fd K "most_between" zdG)
  (D42:Fd K "read_calls" zey)
  (D43:Fd K "is_as_told" zez)
  (D44:Fd K "bid_of" ziK)
  (D45:Fd K "add_line" zf2)
  (D46:Fd K "payouts" zg5)
  (D47:Fd K "earnings" zf0)
  (D48:Fd K "flows_fit" zfi)
  (D49:Fd K "tell_value" zes)
  (D50:Fd K "promised_into" zdr)
  (D51:Fd K "room_into" zfe)
  (D52:Fd K "slacks_without" zdd)
  (D53:Fd K "slacks_with" zdY)
  (D54:Fd K "add_bid" zhb)
  (D55:Fd K "take_bid_away" zdp)
  (D56:Fd K "tell_money" zev)
  (D57:Fd K "pay_in" ziH)
  (D58:Fd K "settle" ziG)
  (D59:Fd K "tell_payout" zdX)
  (D60:Fd K "can_pay" zha)
  (D61:Fd K "hand_over" zfg)
  (D62:Fd K "join_rights" zd2)
  (D63:Fd K "less_of_both" zdH)
  (D64:Fd K "slack_list" zex)
  (D65:Fd K "tell_group" zew)
  (D66:Fd K "pass_on" zg6)
  (D67:Fd K "chain" zkv)
  (D68:Fd K "annul" zkx)
  (D69:Fd K "is_safe" zg7)
  (D70:Fd K "first_to_get" zdI)
  (D71:Fd K "award_to" zf1)
  (D72:Fd K "cut_options" zd4)
  (D73:Fd K "tell_most" zfb)
  (D74:Fd K "tell_keep" zfc)
  (D75:Fd K "tell_tight" zet)
  (D76:Fd K "answer_to_row_call" zcL)
  (D77:Fd K "award" zkw)
  (D78:Fd K "change_rooms" zdJ)
  (D79:Fd K "outage" ziI)
  (D80:Fd K "grant" zku)
  (D81:Fd K "give_back" zfh)
  (D82:Fd K "split_via" zfd)
  (D83:Fd K "answer_to_last_call" zcF)
  (D84:Fd K "answer_to_line_call" zcE)
  (D85:Fd K "answer_to_right_call" zcC)
  (D86:Fd K "answer_to_trade_call" zcB)
  (D87:Fd K "answer_to_bid_call" zcM)
  (D88:Fd K "answer_to" zfk)
  (D89:Fd K "answers" zdN)
  (v_OBLIGATION:PySem.W.nsIn K mainGlobals "OBLIGATION"=some (some (.int (0) t1)))
  (v_OPTION:PySem.W.nsIn K mainGlobals "OPTION"=some (some (.int (1) t2)))
  (v_MOST_LINES:PySem.W.nsIn K mainGlobals "MOST_LINES"=some (some (.int (10) t3)))
  (v_MOST_RIGHTS:PySem.W.nsIn K mainGlobals "MOST_RIGHTS"=some (some (.int (30) t4)))
  (v_MOST_BIDS:PySem.W.nsIn K mainGlobals "MOST_BIDS"=some (some (.int (10) t5)))
  (v_MOST_AMOUNT:PySem.W.nsIn K mainGlobals "MOST_AMOUNT"=some (some (.int (1000000000) t6)))
  (v_OWNER_COUNT:PySem.W.nsIn K mainGlobals "OWNER_COUNT"=some (some (.int (8) t7)))
  (v_WEIGHTS:PySem.W.nsIn K mainGlobals "WEIGHTS"=some (some (.ref A_WEIGHTS)))
  (v_GROUP_COUNTS:PySem.W.nsIn K mainGlobals "GROUP_COUNTS"=some (some (.ref A_GROUP_COUNTS)))
  (v_NUMBER_NAMES:PySem.W.nsIn K mainGlobals "NUMBER_NAMES"=some (some (.ref A_NUMBER_NAMES)))
  (v_ROW_NAMES:PySem.W.nsIn K mainGlobals "ROW_NAMES"=some (some (.ref A_ROW_NAMES)))
  (v_LONGEST_ROW:PySem.W.nsIn K mainGlobals "LONGEST_ROW"=some (some (.int (64) t8)))
  (v_RANGES:PySem.W.nsIn K mainGlobals "RANGES"=some (some (.ref A_RANGES)))
  (v_NOT_AS_TOLD:PySem.W.nsIn K mainGlobals "NOT_AS_TOLD"=some (some (.int (-1) t9)))
  (v_NO_HOUSE:PySem.W.nsIn K mainGlobals "NO_HOUSE"=some (some (.int (-2) t10)))
  (v_NOT_THERE:PySem.W.nsIn K mainGlobals "NOT_THERE"=some (some (.int (-3) t11)))
  (v_NOT_FITTING:PySem.W.nsIn K mainGlobals "NOT_FITTING"=some (some (.int (-4) t12)))
  (v_FULL:PySem.W.nsIn K mainGlobals "FULL"=some (some (.int (-5) t13)))
  (v_TOO_DEAR:PySem.W.nsIn K mainGlobals "TOO_DEAR"=some (some (.int (-6) t14)))
  (v_NOT_SAFE:PySem.W.nsIn K mainGlobals "NOT_SAFE"=some (some (.int (-7) t15)))
  (v_NOT_FITTING_FLOWS:PySem.W.nsIn K mainGlobals "NOT_FITTING_FLOWS"=some (some (.int (-8) t16)))
  (v_MOST_TIMES:PySem.W.nsIn K mainGlobals "MOST_TIMES"=some (some (.int (16) t17)))
  (t_1:K.lookup A_WEIGHTS=some ⟨.type "tuple",o1,.seq #[.int (1) t18,.int (2) t19,.int (4) t20,.int (8) t21,.int (16) t22,.int (32) t23] n1,m1⟩)
  (t_2:K.lookup A_GROUP_COUNTS=some ⟨.type "tuple",o2,.seq #[.int (1) t24,.int (2) t25,.int (4) t26,.int (8) t27,.int (16) t28,.int (32) t29,.int (64) t30] n2,m2⟩)
  (t_3:K.lookup A_NUMBER_NAMES=some ⟨.type "tuple",o3,.seq #[.ref r31,.ref r32,.ref r33,.ref r34,.ref r35,.ref r36,.ref r37,.ref r38,.ref r39,.ref r40,.ref r41,.ref r42,.ref r43,.ref r44,.ref r45,.ref r46,.ref r47,.ref r48,.ref r49,.ref r50,.ref r51,.ref r52,.ref r53,.ref r54,.ref r55,.ref r56] n3,m3⟩)
  (t_4:K.lookup A_ROW_NAMES=some ⟨.type "dict",none,.dict #[⟨(16),.int (16) t57,.ref r58⟩,⟨(17),.int (17) t59,.ref r60⟩,⟨(18),.int (18) t61,.ref r62⟩,⟨(19),.int (19) t63,.ref r64⟩] n4,#[]⟩)
  (ha_4:(A_ROW_NAMES == sysModules)=false)
  (t_5:K.lookup A_RANGES=some ⟨.type "dict",none,.dict #[⟨PyData.keyHash w.params "zones",.str "zones" t65,.ref r66⟩,⟨PyData.keyHash w.params "a",.str "a" t67,.ref r68⟩,⟨PyData.keyHash w.params "b",.str "b" t69,.ref r70⟩,⟨PyData.keyHash w.params "source",.str "source" t71,.ref r72⟩,⟨PyData.keyHash w.params "sink",.str "sink" t73,.ref r74⟩,⟨PyData.keyHash w.params "zone",.str "zone" t75,.ref r76⟩,⟨PyData.keyHash w.params "line",.str "line" t77,.ref r78⟩,⟨PyData.keyHash w.params "forth",.str "forth" t79,.ref r80⟩,⟨PyData.keyHash w.params "back",.str "back" t81,.ref r82⟩,⟨PyData.keyHash w.params "owner",.str "owner" t83,.ref r84⟩,⟨PyData.keyHash w.params "buyer",.str "buyer" t85,.ref r86⟩,⟨PyData.keyHash w.params "kind",.str "kind" t87,.ref r88⟩,⟨PyData.keyHash w.params "amount",.str "amount" t89,.ref r90⟩,⟨PyData.keyHash w.params "price",.str "price" t91,.ref r92⟩,⟨PyData.keyHash w.params "right",.str "right" t93,.ref r94⟩,⟨PyData.keyHash w.params "other",.str "other" t95,.ref r96⟩,⟨PyData.keyHash w.params "bid",.str "bid" t97,.ref r98⟩,⟨PyData.keyHash w.params "payin",.str "payin" t99,.ref r100⟩,⟨PyData.keyHash w.params "prices",.str "prices" t101,.ref r102⟩,⟨PyData.keyHash w.params "flows",.str "flows" t103,.ref r104⟩,⟨PyData.keyHash w.params "marks",.str "marks" t105,.ref r106⟩] n5,#[]⟩)
  (ha_5:(A_RANGES == sysModules)=false)
  (t_6:K.lookup r31=some ⟨.type "tuple",o6,.seq #[.str "zones" t107] n6,m6⟩)
  (t_7:K.lookup r32=some ⟨.type "tuple",o7,.seq #[.str "a" t108,.str "b" t109,.str "forth" t110,.str "back" t111] n7,m7⟩)
  (t_8:K.lookup r33=some ⟨.type "tuple",o8,.seq #[.str "line" t112,.str "forth" t113,.str "back" t114] n8,m8⟩)
  (t_9:K.lookup r34=some ⟨.type "tuple",o9,.seq #[.str "line" t115,.str "forth" t116,.str "back" t117] n9,m9⟩)
  (t_10:K.lookup r35=some ⟨.type "tuple",o10,.seq #[.str "owner" t118,.str "source" t119,.str "sink" t120,.str "kind" t121,.str "amount" t122,.str "price" t123] n10,m10⟩)
  (t_11:K.lookup r36=some ⟨.type "tuple",o11,.seq #[.str "source" t124,.str "sink" t125] n11,m11⟩)
  (t_12:K.lookup r37=some ⟨.type "tuple",o12,.seq #[.str "right" t126,.str "amount" t127] n12,m12⟩)
  (t_13:K.lookup r38=some ⟨.type "tuple",o13,.seq #[.str "right" t128] n13,m13⟩)
  (t_14:K.lookup r39=some ⟨.type "tuple",o14,.seq #[.str "right" t129,.str "buyer" t130,.str "amount" t131,.str "price" t132] n14,m14⟩)
  (t_15:K.lookup r40=some ⟨.type "tuple",o15,.seq #[.str "right" t133,.str "other" t134] n15,m15⟩)
  (t_16:K.lookup r41=some ⟨.type "tuple",o16,.seq #[.str "right" t135,.str "other" t136,.str "amount" t137] n16,m16⟩)
  (t_17:K.lookup r42=some ⟨.type "tuple",o17,.seq #[.str "right" t138,.str "zone" t139] n17,m17⟩)
  (t_18:K.lookup r43=some ⟨.type "tuple",o18,.seq #[.str "right" t140,.str "other" t141,.str "amount" t142] n18,m18⟩)
  (t_19:K.lookup r44=some ⟨.type "tuple",o19,.seq #[.str "owner" t143,.str "source" t144,.str "sink" t145,.str "kind" t146,.str "amount" t147,.str "price" t148] n19,m19⟩)
  (t_20:K.lookup r45=some ⟨.type "tuple",o20,.seq #[.str "bid" t149] n20,m20⟩)
  (t_21:K.lookup r46=some ⟨.type "tuple",o21,.seq #[] n21,m21⟩)
  (t_22:K.lookup r47=some ⟨.type "tuple",o22,.seq #[] n22,m22⟩)
  (t_23:K.lookup r48=some ⟨.type "tuple",o23,.seq #[] n23,m23⟩)
  (t_24:K.lookup r49=some ⟨.type "tuple",o24,.seq #[.str "right" t150] n24,m24⟩)
  (t_25:K.lookup r50=some ⟨.type "tuple",o25,.seq #[] n25,m25⟩)
  (t_26:K.lookup r51=some ⟨.type "tuple",o26,.seq #[] n26,m26⟩)
  (t_27:K.lookup r52=some ⟨.type "tuple",o27,.seq #[.str "owner" t151] n27,m27⟩)
  (t_28:K.lookup r53=some ⟨.type "tuple",o28,.seq #[.str "owner" t152,.str "payin" t153] n28,m28⟩)
  (t_29:K.lookup r54=some ⟨.type "tuple",o29,.seq #[] n29,m29⟩)
  (t_30:K.lookup r55=some ⟨.type "tuple",o30,.seq #[.str "owner" t154] n30,m30⟩)
  (t_31:K.lookup r56=some ⟨.type "tuple",o31,.seq #[] n31,m31⟩)
  (t_32:K.lookup r58=some ⟨.type "tuple",o32,.seq #[.str "prices" t155,.str "flows" t156] n32,m32⟩)
  (t_33:K.lookup r60=some ⟨.type "tuple",o33,.seq #[.str "prices" t157] n33,m33⟩)
  (t_34:K.lookup r62=some ⟨.type "tuple",o34,.seq #[.str "prices" t158] n34,m34⟩)
  (t_35:K.lookup r64=some ⟨.type "tuple",o35,.seq #[.str "marks" t159] n35,m35⟩)
  (t_36:K.lookup r66=some ⟨.type "tuple",o36,.seq #[.int (2) t160,.int (6) t161] n36,m36⟩)
  (t_37:K.lookup r68=some ⟨.type "tuple",o37,.seq #[.int (0) t162,.int (5) t163] n37,m37⟩)
  (t_38:K.lookup r70=some ⟨.type "tuple",o38,.seq #[.int (0) t164,.int (5) t165] n38,m38⟩)
  (t_39:K.lookup r72=some ⟨.type "tuple",o39,.seq #[.int (0) t166,.int (5) t167] n39,m39⟩)
  (t_40:K.lookup r74=some ⟨.type "tuple",o40,.seq #[.int (0) t168,.int (5) t169] n40,m40⟩)
  (t_41:K.lookup r76=some ⟨.type "tuple",o41,.seq #[.int (0) t170,.int (5) t171] n41,m41⟩)
  (t_42:K.lookup r78=some ⟨.type "tuple",o42,.seq #[.int (0) t172,.int (9) t173] n42,m42⟩)
  (t_43:K.lookup r80=some ⟨.type "tuple",o43,.seq #[.int (0) t174,.int (1000000000) t175] n43,m43⟩)
  (t_44:K.lookup r82=some ⟨.type "tuple",o44,.seq #[.int (0) t176,.int (1000000000) t177] n44,m44⟩)
  (t_45:K.lookup r84=some ⟨.type "tuple",o45,.seq #[.int (0) t178,.int (7) t179] n45,m45⟩)
  (t_46:K.lookup r86=some ⟨.type "tuple",o46,.seq #[.int (0) t180,.int (7) t181] n46,m46⟩)
  (t_47:K.lookup r88=some ⟨.type "tuple",o47,.seq #[.int (0) t182,.int (1) t183] n47,m47⟩)
  (t_48:K.lookup r90=some ⟨.type "tuple",o48,.seq #[.int (1) t184,.int (1000000000) t185] n48,m48⟩)
  (t_49:K.lookup r92=some ⟨.type "tuple",o49,.seq #[.int (-1000000) t186,.int (1000000) t187] n49,m49⟩)
  (t_50:K.lookup r94=some ⟨.type "tuple",o50,.seq #[.int (1) t188,.int (1000000000) t189] n50,m50⟩)
  (t_51:K.lookup r96=some ⟨.type "tuple",o51,.seq #[.int (1) t190,.int (1000000000) t191] n51,m51⟩)
  (t_52:K.lookup r98=some ⟨.type "tuple",o52,.seq #[.int (1) t192,.int (1000000000) t193] n52,m52⟩)
  (t_53:K.lookup r100=some ⟨.type "tuple",o53,.seq #[.int (-1000000000000000) t194,.int (1000000000000000) t195] n53,m53⟩)
  (t_54:K.lookup r102=some ⟨.type "tuple",o54,.seq #[.int (-1000000) t196,.int (1000000) t197] n54,m54⟩)
  (t_55:K.lookup r104=some ⟨.type "tuple",o55,.seq #[.int (-1000000000) t198,.int (1000000000) t199] n55,m55⟩)
  (t_56:K.lookup r106=some ⟨.type "tuple",o56,.seq #[.int (0) t200,.int (1) t201] n56,m56⟩)
  (z_all:PySem.W.nsIn K mainGlobals "all"=some none)
  (z_enumerate:PySem.W.nsIn K mainGlobals "enumerate"=some none)
  (z_len:PySem.W.nsIn K mainGlobals "len"=some none)
  (z_list:PySem.W.nsIn K mainGlobals "list"=some none)
  (z_max:PySem.W.nsIn K mainGlobals "max"=some none)
  (z_min:PySem.W.nsIn K mainGlobals "min"=some none)
  (z_range:PySem.W.nsIn K mainGlobals "range"=some none)
  (z_reversed:PySem.W.nsIn K mainGlobals "reversed"=some none)
  (z_sorted:PySem.W.nsIn K mainGlobals "sorted"=some none)
  (z_sum:PySem.W.nsIn K mainGlobals "sum"=some none)
  (z_zip:PySem.W.nsIn K mainGlobals "zip"=some none) :
  ∃fd:FuncData,(∀(s:Shared) (us:List Value),us.length=(["calls"]:List Str).length→BindsTo s fd ⟨us,[]⟩ ((["calls"]:List Str).zip us))∧∀base:Heap,K.In base→base.Ns mainGlobals mg→FnOk P w K mg base CX0 10 fa fd ["calls"] (zpL K):=by
 obtain⟨f,fd,a,U⟩:=D89
 have e:=hfa.symm.trans (PySem.W.mg_of X G a)
 cases e
 obtain⟨⟨oc,od,kV,doc,pm,an,cdv,ct,osl,rfl,lk,hcd⟩,kp⟩:=id U
 let A:Ad:=⟨C_Right,C_Line,C_Call,C_House,C_Bid,A_NUMBER_NAMES,A_ROW_NAMES,A_RANGES,A_WEIGHTS,A_GROUP_COUNTS⟩
 have T:Txt K mg A:=⟨PySem.W.mg_of X G v_WEIGHTS,
  λH=>.inr ⟨_,_,_,t_1,rfl,rfl,Nat.le_of_ble_eq_true rfl,(.cons ⟨_,rfl⟩ (.cons ⟨_,rfl⟩ (.cons ⟨_,rfl⟩ (.cons ⟨_,rfl⟩ (.cons ⟨_,rfl⟩ (.cons ⟨_,rfl⟩ .nil))))))⟩,
  PySem.W.mg_of X G v_GROUP_COUNTS,
  λH=>.inr ⟨_,_,_,t_2,rfl,rfl,Nat.le_of_ble_eq_true rfl,(.cons ⟨_,rfl⟩ (.cons ⟨_,rfl⟩ (.cons ⟨_,rfl⟩ (.cons ⟨_,rfl⟩ (.cons ⟨_,rfl⟩ (.cons ⟨_,rfl⟩ (.cons ⟨_,rfl⟩ .nil)))))))⟩,
  ⟨_,PySem.W.mg_of X G v_OBLIGATION⟩,
  ⟨_,PySem.W.mg_of X G v_MOST_AMOUNT⟩,
  PySem.W.mg_none_of X G z_sum,
  PySem.W.mg_none_of X G z_min,
  PySem.W.mg_none_of X G z_range,
  PySem.W.mg_none_of X G z_enumerate,
  PySem.W.mg_none_of X G z_max,
  PySem.W.mg_none_of X G z_list,
  PySem.W.mg_none_of X G z_reversed,
  q_Right,
  List.forall_mem_cons.mpr ⟨n_Right_number,List.forall_mem_cons.mpr ⟨n_Right_owner,List.forall_mem_cons.mpr ⟨n_Right_source,List.forall_mem_cons.mpr ⟨n_Right_sink,List.forall_mem_cons.mpr ⟨n_Right_kind,List.forall_mem_cons.mpr ⟨n_Right_amount,λ_ h=>absurd h List.not_mem_nil⟩⟩⟩⟩⟩⟩,
  q_Line,
  List.forall_mem_cons.mpr ⟨n_Line_first,List.forall_mem_cons.mpr ⟨n_Line_second,List.forall_mem_cons.mpr ⟨n_Line_forth,List.forall_mem_cons.mpr ⟨n_Line_back,λ_ h=>absurd h List.not_mem_nil⟩⟩⟩⟩,
  q_Call,
  List.forall_mem_cons.mpr ⟨n_Call_place,List.forall_mem_cons.mpr ⟨n_Call_numbers,List.forall_mem_cons.mpr ⟨n_Call_rows,λ_ h=>absurd h List.not_mem_nil⟩⟩⟩,
  PySem.W.mg_none_of X G z_len,
  PySem.W.mg_none_of X G z_all,
  PySem.W.mg_of X G v_NUMBER_NAMES,
  PySem.W.mg_of X G v_ROW_NAMES,
  PySem.W.mg_of X G v_RANGES,
  ⟨[r31,r32,r33,r34,r35,r36,r37,r38,r39,r40,r41,r42,r43,r44,r45,r46,r47,r48,r49,r50,r51,r52,r53,r54,r55,r56],λH=>.inr ⟨_,_,_,t_3,rfl,rfl,Nat.le_of_ble_eq_true rfl,(.cons rfl (.cons rfl (.cons rfl (.cons rfl (.cons rfl (.cons rfl (.cons rfl (.cons rfl (.cons rfl (.cons rfl (.cons rfl (.cons rfl (.cons rfl (.cons rfl (.cons rfl (.cons rfl (.cons rfl (.cons rfl (.cons rfl (.cons rfl (.cons rfl (.cons rfl (.cons rfl (.cons rfl (.cons rfl (.cons rfl .nil))))))))))))))))))))))))))⟩,zko (.cons (λH=>.inr ⟨_,_,_,t_6,rfl,rfl,Nat.le_of_ble_eq_true rfl,(.cons ⟨_,rfl⟩ .nil)⟩) (.cons (λH=>.inr ⟨_,_,_,t_7,rfl,rfl,Nat.le_of_ble_eq_true rfl,(.cons ⟨_,rfl⟩ (.cons ⟨_,rfl⟩ (.cons ⟨_,rfl⟩ (.cons ⟨_,rfl⟩ .nil))))⟩) (.cons (λH=>.inr ⟨_,_,_,t_8,rfl,rfl,Nat.le_of_ble_eq_true rfl,(.cons ⟨_,rfl⟩ (.cons ⟨_,rfl⟩ (.cons ⟨_,rfl⟩ .nil)))⟩) (.cons (λH=>.inr ⟨_,_,_,t_9,rfl,rfl,Nat.le_of_ble_eq_true rfl,(.cons ⟨_,rfl⟩ (.cons ⟨_,rfl⟩ (.cons ⟨_,rfl⟩ .nil)))⟩) (.cons (λH=>.inr ⟨_,_,_,t_10,rfl,rfl,Nat.le_of_ble_eq_true rfl,(.cons ⟨_,rfl⟩ (.cons ⟨_,rfl⟩ (.cons ⟨_,rfl⟩ (.cons ⟨_,rfl⟩ (.cons ⟨_,rfl⟩ (.cons ⟨_,rfl⟩ .nil))))))⟩) (.cons (λH=>.inr ⟨_,_,_,t_11,rfl,rfl,Nat.le_of_ble_eq_true rfl,(.cons ⟨_,rfl⟩ (.cons ⟨_,rfl⟩ .nil))⟩) (.cons (λH=>.inr ⟨_,_,_,t_12,rfl,rfl,Nat.le_of_ble_eq_true rfl,(.cons ⟨_,rfl⟩ (.cons ⟨_,rfl⟩ .nil))⟩) (.cons (λH=>.inr ⟨_,_,_,t_13,rfl,rfl,Nat.le_of_ble_eq_true rfl,(.cons ⟨_,rfl⟩ .nil)⟩) (.cons (λH=>.inr ⟨_,_,_,t_14,rfl,rfl,Nat.le_of_ble_eq_true rfl,(.cons ⟨_,rfl⟩ (.cons ⟨_,rfl⟩ (.cons ⟨_,rfl⟩ (.cons ⟨_,rfl⟩ .nil))))⟩) (.cons (λH=>.inr ⟨_,_,_,t_15,rfl,rfl,Nat.le_of_ble_eq_true rfl,(.cons ⟨_,rfl⟩ (.cons ⟨_,rfl⟩ .nil))⟩) (.cons (λH=>.inr ⟨_,_,_,t_16,rfl,rfl,Nat.le_of_ble_eq_true rfl,(.cons ⟨_,rfl⟩ (.cons ⟨_,rfl⟩ (.cons ⟨_,rfl⟩ .nil)))⟩) (.cons (λH=>.inr ⟨_,_,_,t_17,rfl,rfl,Nat.le_of_ble_eq_true rfl,(.cons ⟨_,rfl⟩ (.cons ⟨_,rfl⟩ .nil))⟩) (.cons (λH=>.inr ⟨_,_,_,t_18,rfl,rfl,Nat.le_of_ble_eq_true rfl,(.cons ⟨_,rfl⟩ (.cons ⟨_,rfl⟩ (.cons ⟨_,rfl⟩ .nil)))⟩) (.cons (λH=>.inr ⟨_,_,_,t_19,rfl,rfl,Nat.le_of_ble_eq_true rfl,(.cons ⟨_,rfl⟩ (.cons ⟨_,rfl⟩ (.cons ⟨_,rfl⟩ (.cons ⟨_,rfl⟩ (.cons ⟨_,rfl⟩ (.cons ⟨_,rfl⟩ .nil))))))⟩) (.cons (λH=>.inr ⟨_,_,_,t_20,rfl,rfl,Nat.le_of_ble_eq_true rfl,(.cons ⟨_,rfl⟩ .nil)⟩) (.cons (λH=>.inr ⟨_,_,_,t_21,rfl,rfl,Nat.le_of_ble_eq_true rfl,.nil⟩) (.cons (λH=>.inr ⟨_,_,_,t_22,rfl,rfl,Nat.le_of_ble_eq_true rfl,.nil⟩) (.cons (λH=>.inr ⟨_,_,_,t_23,rfl,rfl,Nat.le_of_ble_eq_true rfl,.nil⟩) (.cons (λH=>.inr ⟨_,_,_,t_24,rfl,rfl,Nat.le_of_ble_eq_true rfl,(.cons ⟨_,rfl⟩ .nil)⟩) (.cons (λH=>.inr ⟨_,_,_,t_25,rfl,rfl,Nat.le_of_ble_eq_true rfl,.nil⟩) (.cons (λH=>.inr ⟨_,_,_,t_26,rfl,rfl,Nat.le_of_ble_eq_true rfl,.nil⟩) (.cons (λH=>.inr ⟨_,_,_,t_27,rfl,rfl,Nat.le_of_ble_eq_true rfl,(.cons ⟨_,rfl⟩ .nil)⟩) (.cons (λH=>.inr ⟨_,_,_,t_28,rfl,rfl,Nat.le_of_ble_eq_true rfl,(.cons ⟨_,rfl⟩ (.cons ⟨_,rfl⟩ .nil))⟩) (.cons (λH=>.inr ⟨_,_,_,t_29,rfl,rfl,Nat.le_of_ble_eq_true rfl,.nil⟩) (.cons (λH=>.inr ⟨_,_,_,t_30,rfl,rfl,Nat.le_of_ble_eq_true rfl,(.cons ⟨_,rfl⟩ .nil)⟩) (.cons (λH=>.inr ⟨_,_,_,t_31,rfl,rfl,Nat.le_of_ble_eq_true rfl,.nil⟩) (.nil)))))))))))))))))))))))))))⟩,
  q_House,
  List.forall_mem_cons.mpr ⟨n_House_zones,List.forall_mem_cons.mpr ⟨n_House_lines,List.forall_mem_cons.mpr ⟨n_House_rights,List.forall_mem_cons.mpr ⟨n_House_bids,List.forall_mem_cons.mpr ⟨n_House_next_number,List.forall_mem_cons.mpr ⟨n_House_next_bid_number,List.forall_mem_cons.mpr ⟨n_House_balances,List.forall_mem_cons.mpr ⟨n_House_till,List.forall_mem_cons.mpr ⟨n_House_sales,List.forall_mem_cons.mpr ⟨n_House_cash,λ_ h=>absurd h List.not_mem_nil⟩⟩⟩⟩⟩⟩⟩⟩⟩⟩,
  ⟨_,PySem.W.mg_of X G v_OWNER_COUNT⟩,
  ⟨_,PySem.W.mg_of X G v_OPTION⟩,
  ⟨_,PySem.W.mg_of X G v_MOST_LINES⟩,
  ⟨_,PySem.W.mg_of X G v_MOST_RIGHTS⟩,
  ⟨_,PySem.W.mg_of X G v_NOT_AS_TOLD⟩,
  ⟨_,PySem.W.mg_of X G v_NO_HOUSE⟩,
  ⟨_,PySem.W.mg_of X G v_NOT_THERE⟩,
  ⟨_,PySem.W.mg_of X G v_NOT_FITTING⟩,
  ⟨_,PySem.W.mg_of X G v_FULL⟩,
  ⟨_,PySem.W.mg_of X G v_TOO_DEAR⟩,
  ⟨_,PySem.W.mg_of X G v_NOT_SAFE⟩,
  ⟨_,PySem.W.mg_of X G v_NOT_FITTING_FLOWS⟩,
  ⟨_,PySem.W.mg_of X G v_MOST_BIDS⟩,
  ⟨_,PySem.W.mg_of X G v_MOST_TIMES⟩,
  ⟨_,PySem.W.mg_of X G v_LONGEST_ROW⟩,
  PySem.W.mg_none_of X G z_zip,
  PySem.W.mg_none_of X G z_sorted,
  q_Bid,
  List.forall_mem_cons.mpr ⟨n_Bid_number,List.forall_mem_cons.mpr ⟨n_Bid_owner,List.forall_mem_cons.mpr ⟨n_Bid_source,List.forall_mem_cons.mpr ⟨n_Bid_sink,List.forall_mem_cons.mpr ⟨n_Bid_kind,List.forall_mem_cons.mpr ⟨n_Bid_left,List.forall_mem_cons.mpr ⟨n_Bid_price,λ_ h=>absurd h List.not_mem_nil⟩⟩⟩⟩⟩⟩⟩⟩
 have TD:TxtD P w K A:=⟨⟨[r58,r60,r62,r64],rfl,zlp t_4 ha_4 (.cons ⟨rfl,zeK _ _,rfl⟩ (.cons ⟨rfl,zeK _ _,rfl⟩ (.cons ⟨rfl,zeK _ _,rfl⟩ (.cons ⟨rfl,zeK _ _,rfl⟩ (.nil))))) (Nat.le_of_ble_eq_true rfl) (by show (L_ROW_NAMES.map λx=>(.inl x.1:Key)).Nodup;decide +kernel),zmT (.cons (λH=>.inr ⟨_,_,_,t_32,rfl,rfl,Nat.le_of_ble_eq_true rfl,(.cons ⟨_,rfl⟩ (.cons ⟨_,rfl⟩ .nil))⟩) (.cons (λH=>.inr ⟨_,_,_,t_33,rfl,rfl,Nat.le_of_ble_eq_true rfl,(.cons ⟨_,rfl⟩ .nil)⟩) (.cons (λH=>.inr ⟨_,_,_,t_34,rfl,rfl,Nat.le_of_ble_eq_true rfl,(.cons ⟨_,rfl⟩ .nil)⟩) (.cons (λH=>.inr ⟨_,_,_,t_35,rfl,rfl,Nat.le_of_ble_eq_true rfl,(.cons ⟨_,rfl⟩ .nil)⟩) (.nil)))))⟩,
  ⟨[r66,r68,r70,r72,r74,r76,r78,r80,r82,r84,r86,r88,r90,r92,r94,r96,r98,r100,r102,r104,r106],rfl,zlp t_5 ha_5 (.cons ⟨rfl,zb5 _ _,rfl⟩ (.cons ⟨rfl,zb5 _ _,rfl⟩ (.cons ⟨rfl,zb5 _ _,rfl⟩ (.cons ⟨rfl,zb5 _ _,rfl⟩ (.cons ⟨rfl,zb5 _ _,rfl⟩ (.cons ⟨rfl,zb5 _ _,rfl⟩ (.cons ⟨rfl,zb5 _ _,rfl⟩ (.cons ⟨rfl,zb5 _ _,rfl⟩ (.cons ⟨rfl,zb5 _ _,rfl⟩ (.cons ⟨rfl,zb5 _ _,rfl⟩ (.cons ⟨rfl,zb5 _ _,rfl⟩ (.cons ⟨rfl,zb5 _ _,rfl⟩ (.cons ⟨rfl,zb5 _ _,rfl⟩ (.cons ⟨rfl,zb5 _ _,rfl⟩ (.cons ⟨rfl,zb5 _ _,rfl⟩ (.cons ⟨rfl,zb5 _ _,rfl⟩ (.cons ⟨rfl,zb5 _ _,rfl⟩ (.cons ⟨rfl,zb5 _ _,rfl⟩ (.cons ⟨rfl,zb5 _ _,rfl⟩ (.cons ⟨rfl,zb5 _ _,rfl⟩ (.cons ⟨rfl,zb5 _ _,rfl⟩ (.nil)))))))))))))))))))))) (Nat.le_of_ble_eq_true rfl) (by show (L_RANGES.map λx=>(.inr x.1:Key)).Nodup;decide +kernel),zmU (.cons (λH=>.inr ⟨_,_,_,t_36,rfl,rfl,Nat.le_of_ble_eq_true rfl,(.cons ⟨_,rfl⟩ (.cons ⟨_,rfl⟩ .nil))⟩) (.cons (λH=>.inr ⟨_,_,_,t_37,rfl,rfl,Nat.le_of_ble_eq_true rfl,(.cons ⟨_,rfl⟩ (.cons ⟨_,rfl⟩ .nil))⟩) (.cons (λH=>.inr ⟨_,_,_,t_38,rfl,rfl,Nat.le_of_ble_eq_true rfl,(.cons ⟨_,rfl⟩ (.cons ⟨_,rfl⟩ .nil))⟩) (.cons (λH=>.inr ⟨_,_,_,t_39,rfl,rfl,Nat.le_of_ble_eq_true rfl,(.cons ⟨_,rfl⟩ (.cons ⟨_,rfl⟩ .nil))⟩) (.cons (λH=>.inr ⟨_,_,_,t_40,rfl,rfl,Nat.le_of_ble_eq_true rfl,(.cons ⟨_,rfl⟩ (.cons ⟨_,rfl⟩ .nil))⟩) (.cons (λH=>.inr ⟨_,_,_,t_41,rfl,rfl,Nat.le_of_ble_eq_true rfl,(.cons ⟨_,rfl⟩ (.cons ⟨_,rfl⟩ .nil))⟩) (.cons (λH=>.inr ⟨_,_,_,t_42,rfl,rfl,Nat.le_of_ble_eq_true rfl,(.cons ⟨_,rfl⟩ (.cons ⟨_,rfl⟩ .nil))⟩) (.cons (λH=>.inr ⟨_,_,_,t_43,rfl,rfl,Nat.le_of_ble_eq_true rfl,(.cons ⟨_,rfl⟩ (.cons ⟨_,rfl⟩ .nil))⟩) (.cons (λH=>.inr ⟨_,_,_,t_44,rfl,rfl,Nat.le_of_ble_eq_true rfl,(.cons ⟨_,rfl⟩ (.cons ⟨_,rfl⟩ .nil))⟩) (.cons (λH=>.inr ⟨_,_,_,t_45,rfl,rfl,Nat.le_of_ble_eq_true rfl,(.cons ⟨_,rfl⟩ (.cons ⟨_,rfl⟩ .nil))⟩) (.cons (λH=>.inr ⟨_,_,_,t_46,rfl,rfl,Nat.le_of_ble_eq_true rfl,(.cons ⟨_,rfl⟩ (.cons ⟨_,rfl⟩ .nil))⟩) (.cons (λH=>.inr ⟨_,_,_,t_47,rfl,rfl,Nat.le_of_ble_eq_true rfl,(.cons ⟨_,rfl⟩ (.cons ⟨_,rfl⟩ .nil))⟩) (.cons (λH=>.inr ⟨_,_,_,t_48,rfl,rfl,Nat.le_of_ble_eq_true rfl,(.cons ⟨_,rfl⟩ (.cons ⟨_,rfl⟩ .nil))⟩) (.cons (λH=>.inr ⟨_,_,_,t_49,rfl,rfl,Nat.le_of_ble_eq_true rfl,(.cons ⟨_,rfl⟩ (.cons ⟨_,rfl⟩ .nil))⟩) (.cons (λH=>.inr ⟨_,_,_,t_50,rfl,rfl,Nat.le_of_ble_eq_true rfl,(.cons ⟨_,rfl⟩ (.cons ⟨_,rfl⟩ .nil))⟩) (.cons (λH=>.inr ⟨_,_,_,t_51,rfl,rfl,Nat.le_of_ble_eq_true rfl,(.cons ⟨_,rfl⟩ (.cons ⟨_,rfl⟩ .nil))⟩) (.cons (λH=>.inr ⟨_,_,_,t_52,rfl,rfl,Nat.le_of_ble_eq_true rfl,(.cons ⟨_,rfl⟩ (.cons ⟨_,rfl⟩ .nil))⟩) (.cons (λH=>.inr ⟨_,_,_,t_53,rfl,rfl,Nat.le_of_ble_eq_true rfl,(.cons ⟨_,rfl⟩ (.cons ⟨_,rfl⟩ .nil))⟩) (.cons (λH=>.inr ⟨_,_,_,t_54,rfl,rfl,Nat.le_of_ble_eq_true rfl,(.cons ⟨_,rfl⟩ (.cons ⟨_,rfl⟩ .nil))⟩) (.cons (λH=>.inr ⟨_,_,_,t_55,rfl,rfl,Nat.le_of_ble_eq_true rfl,(.cons ⟨_,rfl⟩ (.cons ⟨_,rfl⟩ .nil))⟩) (.cons (λH=>.inr ⟨_,_,_,t_56,rfl,rfl,Nat.le_of_ble_eq_true rfl,(.cons ⟨_,rfl⟩ (.cons ⟨_,rfl⟩ .nil))⟩) (.nil))))))))))))))))))))))⟩⟩
 refine⟨PySem.W.fnOf "answers" "answers" (zgg zdN) (zfr zdN) (zbK zdN) .none kV doc pm an cdv ct,λs us hu=>match us,hu with | [_],_=>.of_eq rfl,λbase _ _=>?_⟩
 have F0:zn3 P w K mg base A:=mkJ X G aC_Line mk_Line kc_Line D0 λ_ _ u=>zjU u T
 have F1:zeQ P w K mg base A:=mkJ X G aC_Right mk_Right kc_Right D1 λ_ _ u=>zi0 u T
 have F2:zqw P w K mg base A:=mkJ X G aC_Bid mk_Bid kc_Bid D2 λ_ _ u=>zkH u T
 have F3:zef P w K mg base A:=mkM q_House D3 λ_ _ u=>zhV u T
 have F4:zek P w K mg base A:=mkM q_House D4 λ_ _ u=>zf7 u T
 have F5:zcH P w K mg base A:=mkM q_House D5 λ_ _ u=>zgJ u T
 have F6:zdA P w K mg base A:=mkM q_House D6 λ_ _ u=>zjV u T
 have F7:zhG P w K mg base A:=mkI X G D7 λ_ _ u=>zl3 u T
 have F8:zb1 P w K mg base A:=mkI X G D8 λ_ _ u=>zgI u T
 have F9:zkV P w K mg base A:=mkI X G D9 λ_ _ u=>zoL u T
 have F10:zpD P w K mg base A:=mkJ X G aC_Call mk_Call kc_Call D10 λ_ _ u=>zjW u T
 have F11:ze3 P w K mg base A:=mkI X G D11 λ_ _ u=>zhg u T
 have F12:zee P w K mg base A:=mkI X G D12 λ_ _ u=>zhT u T TD
 have F13:zdS P w K mg base A:=mkI X G D13 λ_ _ u=>zl2 u T
 have F14:zki P w K mg base A:=mkI X G D14 λ_ _ u=>zlY u T
 have F15:zeS P w K mg base A:=mkI X G D15 λ_ _ u=>zgE u T
 have F16:zkh P w K mg base A:=mkI X G D16 λ_ _ u=>zp0 u T
 have F17:ze2 P w K mg base A:=mkI X G D17 λ_ _ u=>zhf u T
 have F18:zeU P w K mg base A:=mkI X G D18 λ_ _ u=>zgG u T
 have F19:zfT P w K mg base A:=mkI X G D19 λ_ _ u=>zhQ u T
 have F20:zb3 P w K mg base A:=mkI X G D20 λ_ _ u=>zc2 u T
 have F21:zfw P w K mg base A:=mkI X G D21 λ_ _ u=>zjO u T
 have F22:zn4 P w K mg base A:=mkJ X G aC_House mk_House kc_House D22 λ_ _ u=>zi2 u T F3
 have F23:zeV P w K mg base A:=mkM q_House D23 λ_ _ u=>zi1 u T F6
 have F24:zgk P w K mg base A:=mkI X G D24 λ_ _ u=>zkD u T F7
 have F25:zgP P w K mg base A:=mkI X G D25 λ_ _ u=>znh u T F9
 have F26:zej P w K mg base A:=mkI X G D26 λ_ _ u=>zf6 u T F12
 have F27:zfS P w K mg base A:=mkI X G D27 λ_ _ u=>zhP u T F8
 have F28:zjj P w K mg base A:=mkI X G D28 λ_ _ u=>zoK u T F16
 have F29:zhF P w K mg base A:=mkI X G D29 λ_ _ u=>zjS u T F16
 have F30:zpF P w K mg base A:=mkI X G D30 λ_ _ u=>zp2 u T F16
 have F31:zpE P w K mg base A:=mkI X G D31 λ_ _ u=>zp1 u T F16
 have F32:zfP P w K mg base A:=mkI X G D32 λ_ _ u=>zhM u T F13
 have F33:zgy P w K mg base A:=mkI X G D33 λ_ _ u=>ziU u T F13 F19 F17 F18
 have F34:zcT P w K mg base A:=mkM q_House D34 λ_ _ u=>zi3 u T F24
 have F35:zcx P w K mg base A:=mkI X G D35 λ_ _ u=>zhL u T F1
 have F36:zfu P w K mg base A:=mkI X G D36 λ_ _ u=>zjJ u T F2
 have F37:zgv P w K mg base A:=mkI X G D37 λ_ _ u=>ziR u T F1
 have F38:zeR P w K mg base A:=mkI X G D38 λ_ _ u=>ziQ u T F0
 have F39:zdm P w K mg base A:=mkI X G D39 λ_ _ u=>zhR u T F25
 have F40:zkg P w K mg base A:=mkI X G D40 λ_ _ u=>zlX u T F25
 have F41:zcA P w K mg base A:=mkI X G D41 λ_ _ u=>zhh u T F25
 have F42:zgB P w K mg base A:=mkI X G D42 λ_ _ u=>ziY u T TD F11 F10
 have F43:zgC P w K mg base A:=mkI X G D43 λ_ _ u=>ziZ u T F26 F12
 have F44:zlH P w K mg base A:=mkI X G D44 λ_ _ u=>zni u T F2
 have F45:ziw P w K mg base A:=mkI X G D45 λ_ _ u=>zkG u T F5 F0
 have F46:zhB P w K mg base A:=mkI X G D46 λ_ _ u=>zlZ u T F28
 have F47:ziu P w K mg base A:=mkI X G D47 λ_ _ u=>zkE u T F29
 have F48:zhE P w K mg base A:=mkI X G D48 λ_ _ u=>zjR u T F30
 have F49:zgw P w K mg base A:=mkI X G D49 λ_ _ u=>ziS u T F8 F28
 have F50:zdz P w K mg base A:=mkI X G D50 λ_ _ u=>zgH u T F39
 have F51:zfv P w K mg base A:=mkI X G D51 λ_ _ u=>zjN u T F40
 have F52:zei P w K mg base A:=mkI X G D52 λ_ _ u=>zf5 u T F39
 have F53:zfR P w K mg base A:=mkI X G D53 λ_ _ u=>zhO u T F39
 have F54:zkl P w K mg base A:=mkI X G D54 λ_ _ u=>zl6 u T F44 F5 F34 F24
 have F55:zeT P w K mg base A:=mkI X G D55 λ_ _ u=>zgF u T F36 F8
 have F56:zgz P w K mg base A:=mkI X G D56 λ_ _ u=>ziV u T F34
 have F57:zlF P w K mg base A:=mkI X G D57 λ_ _ u=>znf u T F6 F34
 have F58:zlE P w K mg base A:=mkI X G D58 λ_ _ u=>zne u T F31 F46 F48 F6 F28
 have F59:zfQ P w K mg base A:=mkI X G D59 λ_ _ u=>zhN u T F46 F47
 have F60:zkk P w K mg base A:=mkI X G D60 λ_ _ u=>zl4 u T F34
 have F61:zhC P w K mg base A:=mkI X G D61 λ_ _ u=>zjP u T F35 F37 F1
 have F62:zfU P w K mg base A:=mkI X G D62 λ_ _ u=>zhS u T F8 F35 F20
 have F63:zdM P w K mg base A:=mkI X G D63 λ_ _ u=>zhi u T F35
 have F64:zct P w K mg base A:=mkI X G D64 λ_ _ u=>ziX u T F51 F50
 have F65:zgA P w K mg base A:=mkI X G D65 λ_ _ u=>ziW u T F50 F51
 have F66:zkj P w K mg base A:=mkI X G D66 λ_ _ u=>zl0 u T F8 F6 F60 F61
 have F67:zn6 P w K mg base A:=mkI X G D67 λ_ _ u=>zoN u T F8 F63 F20 F21 F1
 have F68:zn8 P w K mg base A:=mkI X G D68 λ_ _ u=>zoP u T F8 F63 F21 F20
 have F69:zdR P w K mg base A:=mkI X G D69 λ_ _ u=>zl1 u T F64
 have F70:ze4 P w K mg base A:=mkI X G D70 λ_ _ u=>zhj u T F64 F14 F41
 have F71:ziv P w K mg base A:=mkI X G D71 λ_ _ u=>zkF u T F64 F1 F23 F36 F41
 have F72:zfV P w K mg base A:=mkI X G D72 λ_ _ u=>zhU u T F64 F52 F35 F53 F41 F8
 have F73:zhy P w K mg base A:=mkI X G D73 λ_ _ u=>zjK u T F64 F5 F41
 have F74:zhz P w K mg base A:=mkI X G D74 λ_ _ u=>zjL u T F8 F64 F41
 have F75:zgx P w K mg base A:=mkI X G D75 λ_ _ u=>ziT u T F64 F13 F9
 have F76:zdj P w K mg base A:=mkI X G D76 λ_ _ u=>zeH u T F65 F58 F59 F49
 have F77:zn7 P w K mg base A:=mkI X G D77 λ_ _ u=>zoO u T F70 F13 F71
 have F78:ze5 P w K mg base A:=mkI X G D78 λ_ _ u=>zhk u T F38 F69
 have F79:zlG P w K mg base A:=mkI X G D79 λ_ _ u=>zng u T F38 F72 F27 F69 F13
 have F80:zn5 P w K mg base A:=mkI X G D80 λ_ _ u=>zoM u T F1 F23 F5 F34 F7 F69
 have F81:zhD P w K mg base A:=mkI X G D81 λ_ _ u=>zjQ u T F8 F35 F69
 have F82:zhA P w K mg base A:=mkI X G D82 λ_ _ u=>zjM u T F8 F1 F35 F69
 have F83:zdb P w K mg base A:=mkI X G D83 λ_ _ u=>zen u T F33 F75 F56 F57 F15 F32
 have F84:zda P w K mg base A:=mkI X G D84 λ_ _ u=>zem u T F79 F45 F78
 have F85:zc4 P w K mg base A:=mkI X G D85 λ_ _ u=>zd9 u T F74 F80 F73 F81
 have F86:zc3 P w K mg base A:=mkI X G D86 λ_ _ u=>zd8 u T F68 F66 F62 F67 F82
 have F87:zdk P w K mg base A:=mkI X G D87 λ_ _ u=>zeI u T F77 F54 F55
 have F88:zhH P w K mg base A:=mkI X G D88 λ_ _ u=>zjT u T F83 F43 F3 F4 F84 F85 F86 F87 F76
 exact zl5 U T F22 F42 F88
end Z
open PySem PySem.W PyProof.Rows
set_option maxRecDepth 100000 in
set_option maxHeartbeats 0 in
theorem PySem.Challenge.cw_zonerights_s01_answers_holds : PySem.Challenge.rw_zonerights_s01_answers.Holds := by
 w_on;k_headS;(case hw=>exact⟨[.list [.int 25]],by decide +kernel,by decide +kernel⟩)
 k_fillS
 refine L2.zlJ (r:=PySem.Challenge.rw_zonerights_s01_answers) (k:=10) (CX:=L2.CX0) (ps:=["calls"]) (sp:=Z.zpL) (by decide +kernel) rfl rfl ⟨rfl,by decide,by decide⟩ (λw h Y=>PySem.W.kIn_of Y) ?F ?S (λ_ _ _ _ z=>z)
 case F =>
  intro w mg fa h Y KX G hmg
  refine' Z.zrl (w:=w) KX G hmg ?aC_Line ?q_Line ?mk_Line ?kc_Line ?aC_Right ?q_Right ?mk_Right ?kc_Right ?aC_Bid ?q_Bid ?mk_Bid ?kc_Bid ?aC_House ?q_House ?mk_House ?kc_House ?aC_Call ?q_Call ?mk_Call ?kc_Call ?n_Line_first ?n_Line_second ?n_Line_forth ?n_Line_back ?n_Right_number ?n_Right_owner ?n_Right_source ?n_Right_sink ?n_Right_kind ?n_Right_amount ?n_Bid_number ?n_Bid_owner ?n_Bid_source ?n_Bid_sink ?n_Bid_kind ?n_Bid_left ?n_Bid_price ?n_House_zones ?n_House_lines ?n_House_rights ?n_House_bids ?n_House_next_number ?n_House_next_bid_number ?n_House_balances ?n_House_till ?n_House_sales ?n_House_cash ?n_Call_place ?n_Call_numbers ?n_Call_rows ?D0 ?D1 ?D2 ?D3 ?D4 ?D5 ?D6 ?D7 ?D8 ?D9 ?D10 ?D11 ?D12 ?D13 ?D14 ?D15 ?D16 ?D17 ?D18 ?D19 ?D20 ?D21 ?D22 ?D23 ?D24 ?D25 ?D26 ?D27 ?D28 ?D29 ?D30 ?D31 ?D32 ?D33 ?D34 ?D35 ?D36 ?D37 ?D38 ?D39 ?D40 ?D41 ?D42 ?D43 ?D44 ?D45 ?D46 ?D47 ?D48 ?D49 ?D50 ?D51 ?D52 ?D53 ?D54 ?D55 ?D56 ?D57 ?D58 ?D59 ?D60 ?D61 ?D62 ?D63 ?D64 ?D65 ?D66 ?D67 ?D68 ?D69 ?D70 ?D71 ?D72 ?D73 ?D74 ?D75 ?D76 ?D77 ?D78 ?D79 ?D80 ?D81 ?D82 ?D83 ?D84 ?D85 ?D86 ?D87 ?D88 ?D89 ?v_OBLIGATION ?v_OPTION ?v_MOST_LINES ?v_MOST_RIGHTS ?v_MOST_BIDS ?v_MOST_AMOUNT ?v_OWNER_COUNT ?v_WEIGHTS ?v_GROUP_COUNTS ?v_NUMBER_NAMES ?v_ROW_NAMES ?v_LONGEST_ROW ?v_RANGES ?v_NOT_AS_TOLD ?v_NO_HOUSE ?v_NOT_THERE ?v_NOT_FITTING ?v_FULL ?v_TOO_DEAR ?v_NOT_SAFE ?v_NOT_FITTING_FLOWS ?v_MOST_TIMES ?t_1 ?t_2 ?t_3 ?t_4 ?ha_4 ?t_5 ?ha_5 ?t_6 ?t_7 ?t_8 ?t_9 ?t_10 ?t_11 ?t_12 ?t_13 ?t_14 ?t_15 ?t_16 ?t_17 ?t_18 ?t_19 ?t_20 ?t_21 ?t_22 ?t_23 ?t_24 ?t_25 ?t_26 ?t_27 ?t_28 ?t_29 ?t_30 ?t_31 ?t_32 ?t_33 ?t_34 ?t_35 ?t_36 ?t_37 ?t_38 ?t_39 ?t_40 ?t_41 ?t_42 ?t_43 ?t_44 ?t_45 ?t_46 ?t_47 ?t_48 ?t_49 ?t_50 ?t_51 ?t_52 ?t_53 ?t_54 ?t_55 ?t_56 ?z_all ?z_enumerate ?z_len ?z_list ?z_max ?z_min ?z_range ?z_reversed ?z_sorted ?z_sum ?z_zip
  (case aC_Line=>k_is)
  (case q_Line=>exact⟨by k_is,by k_is,by k_is,by k_is⟩)
  (case mk_Line | kc_Line | aC_Right=>k_is)
  (case q_Right=>exact⟨by k_is,by k_is,by k_is,by k_is⟩)
  (case mk_Right | kc_Right | aC_Bid=>k_is)
  (case q_Bid=>exact⟨by k_is,by k_is,by k_is,by k_is⟩)
  (case mk_Bid | kc_Bid | aC_House=>k_is)
  (case q_House=>exact⟨by k_is,by k_is,by k_is,by k_is⟩)
  (case mk_House | kc_House | aC_Call=>k_is)
  (case q_Call=>exact⟨by k_is,by k_is,by k_is,by k_is⟩)
  (case mk_Call | kc_Call | n_Line_first | n_Line_second | n_Line_forth | n_Line_back | n_Right_number | n_Right_owner | n_Right_source | n_Right_sink | n_Right_kind | n_Right_amount | n_Bid_number | n_Bid_owner | n_Bid_source | n_Bid_sink | n_Bid_kind | n_Bid_left | n_Bid_price | n_House_zones | n_House_lines | n_House_rights | n_House_bids | n_House_next_number | n_House_next_bid_number | n_House_balances | n_House_till | n_House_sales | n_House_cash | n_Call_place | n_Call_numbers | n_Call_rows=>k_is)
  (case D0 | D1 | D2 | D3 | D4 | D5 | D6=>exact⟨_,_,by k_is,by k_is,L2.zgs (by k_is) (by k_is) (by k_is)⟩)
  (case D7 | D8 | D9=>exact⟨_,_,by k_is,L2.zgs (by k_is) (by k_is) (by k_is)⟩)
  (case D10=>exact⟨_,_,by k_is,by k_is,L2.zgs (by k_is) (by k_is) (by k_is)⟩)
  (case D11 | D12 | D13 | D14 | D15 | D16 | D17 | D18 | D19 | D20 | D21=>exact⟨_,_,by k_is,L2.zgs (by k_is) (by k_is) (by k_is)⟩)
  (case D22 | D23=>exact⟨_,_,by k_is,by k_is,L2.zgs (by k_is) (by k_is) (by k_is)⟩)
  (case D24 | D25 | D26 | D27 | D28 | D29 | D30 | D31 | D32 | D33=>exact⟨_,_,by k_is,L2.zgs (by k_is) (by k_is) (by k_is)⟩)
  (case D34=>exact⟨_,_,by k_is,by k_is,L2.zgs (by k_is) (by k_is) (by k_is)⟩)
  (case D35 | D36 | D37 | D38 | D39 | D40 | D41 | D42 | D43 | D44 | D45 | D46 | D47 | D48 | D49 | D50 | D51 | D52 | D53 | D54 | D55 | D56 | D57 | D58 | D59 | D60 | D61 | D62 | D63 | D64 | D65 | D66 | D67 | D68 | D69 | D70 | D71 | D72 | D73 | D74 | D75 | D76 | D77 | D78 | D79 | D80 | D81 | D82 | D83 | D84 | D85 | D86 | D87 | D88 | D89=>exact⟨_,_,by k_is,L2.zgs (by k_is) (by k_is) (by k_is)⟩)
  (case v_OBLIGATION | v_OPTION | v_MOST_LINES | v_MOST_RIGHTS | v_MOST_BIDS | v_MOST_AMOUNT | v_OWNER_COUNT | v_WEIGHTS | v_GROUP_COUNTS | v_NUMBER_NAMES | v_ROW_NAMES | v_LONGEST_ROW | v_RANGES | v_NOT_AS_TOLD | v_NO_HOUSE | v_NOT_THERE | v_NOT_FITTING | v_FULL | v_TOO_DEAR | v_NOT_SAFE | v_NOT_FITTING_FLOWS | v_MOST_TIMES | t_1 | t_2 | t_3 | t_4=>k_is)
  (case ha_4=>exact rfl)
  (case t_5=>k_is)
  (case ha_5=>exact rfl)
  (case t_6 | t_7 | t_8 | t_9 | t_10 | t_11 | t_12 | t_13 | t_14 | t_15 | t_16 | t_17 | t_18 | t_19 | t_20 | t_21 | t_22 | t_23 | t_24 | t_25 | t_26 | t_27 | t_28 | t_29 | t_30 | t_31 | t_32 | t_33 | t_34 | t_35 | t_36 | t_37 | t_38 | t_39 | t_40 | t_41 | t_42 | t_43 | t_44 | t_45 | t_46 | t_47 | t_48 | t_49 | t_50 | t_51 | t_52 | t_53 | t_54 | t_55 | t_56 | z_all | z_enumerate | z_len | z_list | z_max | z_min | z_range | z_reversed | z_sorted | z_sum | z_zip=>k_is)
 case S =>
  intro K H xs a hO hwi hask hx
  cases hx with
  | cons h1 h2 =>
   cases h2
   cases h1 with
   | lst hs ha =>
    have e:=L2.znz a.1 _ ha
    subst e
    have q:((Codec.inLen 0 17000 a.1 && a.1.all (Codec.inInt (-1000000000000000000) 1000000000000000000)) && true)=true:=hwi
    rw[Bool.and_eq_true,Bool.and_eq_true] at q
    exact⟨_,rfl,a.1,hs,(Codec.inNat_iff.mp q.1.1).2,hask,λH' p hp=>.lst (L2.SqL.of hp) (L2.znL _)⟩
