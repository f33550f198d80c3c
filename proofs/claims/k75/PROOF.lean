import PyProof.Rows.All
import Wide.All
import OpenK.KLine
import KE.KPairComp
import OpenK.KOwn
import KE.KIntText
import KE.KIsAll
import KE.KRevIter
import OpenK.KRaise
import Wide.FinOn
import PyProof.EqAt
import PyProof.EqKinds
import PyProof.TupleCall
import PySem.Challenge.RW_sharewheel_k75_each_refusal_by_itself
set_option Elab.async false
set_option linter.all false
set_option maxRecDepth 100000
namespace PySem.W.Fast
theorem tw10374632558016547081:True:=⟨⟩
theorem tw7478123994339007903:True:=⟨⟩
theorem tw3945831679567021610:True:=⟨⟩
theorem tw2875624504187281209:True:=⟨⟩
theorem tw16506471722634982818:True:=⟨⟩
theorem tw10368827614151553891:True:=⟨⟩
theorem tw6594970650091316094:True:=⟨⟩
theorem tw9385439782273163706:True:=⟨⟩
theorem tw11589282660436910429:True:=⟨⟩
theorem tw3507769193172341495:True:=⟨⟩
theorem tw15279809834360698895:True:=⟨⟩
theorem tw12145756527313086355:True:=⟨⟩
theorem tw14565471765716263578:True:=⟨⟩
theorem tw15018716904364860632:True:=⟨⟩
theorem tw3328698262378449831:True:=⟨⟩
theorem tw14920823985818648580:True:=⟨⟩
theorem tw2849704279308238487:True:=⟨⟩
theorem tw2875724977328499099:True:=⟨⟩
theorem tw4938231688903256454:True:=⟨⟩
theorem tw7410891785012097005:True:=⟨⟩
theorem tw16430232756884227355:True:=⟨⟩
theorem tw9493307185956880263:True:=⟨⟩
theorem tw6283245643677562364:True:=⟨⟩
theorem tw9008160628827913882:True:=⟨⟩
theorem tw15070367684371235388:True:=⟨⟩
theorem tw6989117043657802206:True:=⟨⟩
theorem tw5741263409437251658:True:=⟨⟩
theorem tw16952672246017521922:True:=⟨⟩
theorem tw9214045550807345901:True:=⟨⟩
theorem tw8279892559484781205:True:=⟨⟩
theorem tw14976707299857747702:True:=⟨⟩
theorem tw12292467555009554882:True:=⟨⟩
theorem tw12279251808663890853:True:=⟨⟩
theorem tw16235109116225965483:True:=⟨⟩
theorem tw5458712214775249156:True:=⟨⟩
theorem tw8576131582279294496:True:=⟨⟩
theorem te861502493610598483:True:=⟨⟩
theorem tw938635154573522699:True:=⟨⟩
theorem tw15912565958993707665:True:=⟨⟩
theorem tw7774113678449685934:True:=⟨⟩
theorem tw9682173286982887165:True:=⟨⟩
theorem tw8991765486915525096:True:=⟨⟩
theorem tw5341865396476803018:True:=⟨⟩
theorem tw9187883970820590181:True:=⟨⟩
theorem tw6306950242917791374:True:=⟨⟩
theorem tw2285686636504529566:True:=⟨⟩
theorem tw4359228131654794301:True:=⟨⟩
theorem tw16797375974695604193:True:=⟨⟩
theorem tw12396662096508845406:True:=⟨⟩
theorem tw1402340071739887797:True:=⟨⟩
theorem tw622995879521568732:True:=⟨⟩
theorem tw1508931186618082714:True:=⟨⟩
theorem tw12511390691319364447:True:=⟨⟩
theorem tw18003772858949239459:True:=⟨⟩
theorem tw9320515035125037321:True:=⟨⟩
theorem tw15214748959534726111:True:=⟨⟩
theorem tw3365755272349913518:True:=⟨⟩
theorem tw1719895430356276633:True:=⟨⟩
theorem tw5000232492035539693:True:=⟨⟩
theorem tw10958754517766857842:True:=⟨⟩
theorem tw6170744672141170255:True:=⟨⟩
theorem tw12914328657175100586:True:=⟨⟩
theorem tw6153300077656785580:True:=⟨⟩
theorem tw3512428149003415425:True:=⟨⟩
theorem tw11884987206582726547:True:=⟨⟩
theorem tw7007286002206832825:True:=⟨⟩
theorem tw2785556982917274878:True:=⟨⟩
theorem tw1532491051758110099:True:=⟨⟩
theorem tw8984893954669693527:True:=⟨⟩
theorem tw1149798457248472902:True:=⟨⟩
theorem tw10851082721055443051:True:=⟨⟩
theorem tw17583645235957782780:True:=⟨⟩
theorem tw727924238349540522:True:=⟨⟩
theorem tw16602310380114960990:True:=⟨⟩
theorem tw14422874475027894161:True:=⟨⟩
theorem tw640624198105042115:True:=⟨⟩
theorem tw9644411389650309789:True:=⟨⟩
theorem tw15057269961097804198:True:=⟨⟩
theorem tw16457251377207888201:True:=⟨⟩
theorem tw12611869695672147664:True:=⟨⟩
theorem tw6965440757966121213:True:=⟨⟩
theorem tw3208522521903949160:True:=⟨⟩
theorem tw17155049476370652306:True:=⟨⟩
theorem tw16567430530900736849:True:=⟨⟩
theorem tw12435058653956393420:True:=⟨⟩
theorem tw17951090304560329564:True:=⟨⟩
theorem tw13421457143807847188:True:=⟨⟩
theorem tw3297117884562324255:True:=⟨⟩
theorem tw17894200724404610344:True:=⟨⟩
theorem tw15125770126966510544:True:=⟨⟩
theorem tw2827255003249426055:True:=⟨⟩
theorem tw8398943975594018772:True:=⟨⟩
theorem tw6128106870883400570:True:=⟨⟩
theorem tw3328118118096588273:True:=⟨⟩
theorem tw9561720059484986898:True:=⟨⟩
theorem tw15685335758407661847:True:=⟨⟩
theorem tw17184031218471190783:True:=⟨⟩
theorem tw4026147355466621588:True:=⟨⟩
theorem tw15227483606004533461:True:=⟨⟩
theorem tw16822532161544500889:True:=⟨⟩
theorem tw16670193898709178398:True:=⟨⟩
theorem tw2813801546833155447:True:=⟨⟩
theorem tw10345878139772363575:True:=⟨⟩
theorem tw7574704160914276066:True:=⟨⟩
theorem tw14785633479632635281:True:=⟨⟩
theorem tw8044325682031459534:True:=⟨⟩
theorem tw4757880891971583632:True:=⟨⟩
theorem tw15060872555676474952:True:=⟨⟩
theorem tw7926090574327391632:True:=⟨⟩
theorem tw16376237812277222054:True:=⟨⟩
theorem tw18333273249017474000:True:=⟨⟩
theorem tw3604082896382514872:True:=⟨⟩
theorem tw15401437161963490237:True:=⟨⟩
theorem tw9847850075989111346:True:=⟨⟩
theorem tw16080672043311297529:True:=⟨⟩
theorem tw17694573340227235524:True:=⟨⟩
theorem tw15138174406397646402:True:=⟨⟩
theorem tw17518593693041627797:True:=⟨⟩
theorem tw4964365479395341524:True:=⟨⟩
theorem tw15117199230931547845:True:=⟨⟩
theorem tw4835942615686071818:True:=⟨⟩
theorem tw4483904966330829159:True:=⟨⟩
theorem tw4470468392277007246:True:=⟨⟩
theorem tw18335596039185421423:True:=⟨⟩
theorem tw6141218239328293737:True:=⟨⟩
theorem tw8979854591385374766:True:=⟨⟩
theorem tw2167315655227761912:True:=⟨⟩
theorem tw862068910833498541:True:=⟨⟩
theorem tw15166322114958858414:True:=⟨⟩
theorem tw11513857634932158529:True:=⟨⟩
theorem tw12732229965196715158:True:=⟨⟩
theorem tw14845619989558847073:True:=⟨⟩
theorem tw13813618637161013713:True:=⟨⟩
theorem tw7164969610272591079:True:=⟨⟩
theorem tw7765643250661916132:True:=⟨⟩
theorem tw6338894885288841830:True:=⟨⟩
theorem tw18400553757987027518:True:=⟨⟩
theorem tw15572387867429868682:True:=⟨⟩
theorem tw7943549864190904611:True:=⟨⟩
theorem tw13164499291161521807:True:=⟨⟩
theorem tw7631737481131229992:True:=⟨⟩
theorem tw16766484511958638138:True:=⟨⟩
theorem tw15577281813014381367:True:=⟨⟩
theorem tw11863963456291920697:True:=⟨⟩
theorem tw12330612334027959195:True:=⟨⟩
theorem tw2015444344454546412:True:=⟨⟩
theorem tw3946093964270102607:True:=⟨⟩
theorem tw14847308668706973960:True:=⟨⟩
theorem tw16101134707931498060:True:=⟨⟩
theorem tw18066248841608746250:True:=⟨⟩
theorem tw9630203353718772412:True:=⟨⟩
theorem tw4323258101793500111:True:=⟨⟩
theorem tw11555995132304969306:True:=⟨⟩
theorem tw6921103065077540406:True:=⟨⟩
theorem tw6094820017090691545:True:=⟨⟩
theorem tw1607123104830579860:True:=⟨⟩
theorem tw446110843843071267:True:=⟨⟩
theorem tw12284071716729939190:True:=⟨⟩
theorem tw2777980699273126189:True:=⟨⟩
theorem tw16140922888777852060:True:=⟨⟩
theorem tw1181674027530198351:True:=⟨⟩
theorem tw11566098044289413073:True:=⟨⟩
theorem tw10470340158578859262:True:=⟨⟩
theorem tw13575289164829896131:True:=⟨⟩
theorem tw9142603964197575258:True:=⟨⟩
theorem tw9739999909748841315:True:=⟨⟩
theorem tw7509565986652818475:True:=⟨⟩
theorem tw8297923619242306668:True:=⟨⟩
theorem tw5371794888043636658:True:=⟨⟩
theorem tw11317637306720784765:True:=⟨⟩
theorem tw5458571740234265576:True:=⟨⟩
theorem tw11033627544408312984:True:=⟨⟩
theorem tw14569604634059749682:True:=⟨⟩
theorem tw123454888095987114:True:=⟨⟩
theorem tw4490611911172417597:True:=⟨⟩
theorem tw10886659093417053267:True:=⟨⟩
theorem tw506581581156960101:True:=⟨⟩
theorem tw2392593158011319353:True:=⟨⟩
theorem tw16003985067176294414:True:=⟨⟩
theorem tw9786136246686688387:True:=⟨⟩
theorem tw4545961482378311905:True:=⟨⟩
theorem tw18384110700954362821:True:=⟨⟩
theorem tw17963105932079019327:True:=⟨⟩
theorem tw16691165463884887630:True:=⟨⟩
theorem tw11824586356888161845:True:=⟨⟩
theorem tw4724775325020269224:True:=⟨⟩
theorem tw8122695690928665766:True:=⟨⟩
theorem tw12843764043397292189:True:=⟨⟩
theorem tw18367749455379333440:True:=⟨⟩
theorem tw12715800853834201459:True:=⟨⟩
theorem tw16753820520455620202:True:=⟨⟩
theorem tw14671739901194505220:True:=⟨⟩
theorem tw16109456028575089023:True:=⟨⟩
theorem tw15171223727094530161:True:=⟨⟩
theorem tw15910123707662034135:True:=⟨⟩
theorem tw4884199854448574:True:=⟨⟩
theorem tw14651306747883248417:True:=⟨⟩
theorem tw2216542800690825051:True:=⟨⟩
theorem tw12314708539913122752:True:=⟨⟩
theorem tw11095110211248682772:True:=⟨⟩
theorem tw16116027297012810434:True:=⟨⟩
theorem tw890339118813698166:True:=⟨⟩
theorem tw11499599281419925204:True:=⟨⟩
theorem tw9201617497623189827:True:=⟨⟩
theorem tw7002614004127435958:True:=⟨⟩
theorem tw15593559885672580101:True:=⟨⟩
theorem tw11468729153070441980:True:=⟨⟩
theorem tw5649666937502919571:True:=⟨⟩
theorem tw8565224436197482051:True:=⟨⟩
theorem tw424408320835691240:True:=⟨⟩
theorem tw14219159868682941630:True:=⟨⟩
theorem tw10159399881129095643:True:=⟨⟩
theorem tw8150244357695641675:True:=⟨⟩
theorem tw10387345722656961088:True:=⟨⟩
theorem tw4267111383703672358:True:=⟨⟩
theorem tw14372219517969529114:True:=⟨⟩
theorem tw8318101203651539667:True:=⟨⟩
theorem tw10295913840692754127:True:=⟨⟩
theorem tw17334828202450815106:True:=⟨⟩
theorem tw17188069144378779261:True:=⟨⟩
theorem tw6829468419937405859:True:=⟨⟩
theorem tw6408400580700104982:True:=⟨⟩
theorem tw16226643914720891334:True:=⟨⟩
theorem tw12542895121996172375:True:=⟨⟩
theorem tw2983127059725616120:True:=⟨⟩
theorem tw13996866031312336078:True:=⟨⟩
theorem tw15475723433398761304:True:=⟨⟩
theorem tw7607420049574824106:True:=⟨⟩
theorem tw9950792792127014553:True:=⟨⟩
theorem tw3652199383789512132:True:=⟨⟩
theorem tw11362737164128661484:True:=⟨⟩
theorem tw9510108024173832781:True:=⟨⟩
theorem tw16864618592142003386:True:=⟨⟩
theorem tw15805137534098808535:True:=⟨⟩
theorem tw2172276787581067923:True:=⟨⟩
theorem tw11717715558655726156:True:=⟨⟩
theorem tw154272780991502253:True:=⟨⟩
theorem tw182723221234572337:True:=⟨⟩
theorem tw7050804516273991350:True:=⟨⟩
theorem tw12750670339961964742:True:=⟨⟩
theorem tw7220529860990300233:True:=⟨⟩
theorem tw17278973380088787663:True:=⟨⟩
theorem tw211337195705725219:True:=⟨⟩
theorem tw4565167180653195659:True:=⟨⟩
theorem tw17590876675597686902:True:=⟨⟩
theorem tw6751970477201280107:True:=⟨⟩
theorem tw4046687200572763549:True:=⟨⟩
theorem tw2870957612703475602:True:=⟨⟩
theorem tw11449968299874610285:True:=⟨⟩
theorem tw1158361714356455011:True:=⟨⟩
theorem tw4903002758410956813:True:=⟨⟩
theorem tw8909772338491405060:True:=⟨⟩
theorem tw6856243202995728640:True:=⟨⟩
theorem tw5274481202262711730:True:=⟨⟩
theorem tw13348088958985639553:True:=⟨⟩
theorem tw18004296560267143027:True:=⟨⟩
theorem tw7231845647793152400:True:=⟨⟩
theorem tw10310341975313369176:True:=⟨⟩
theorem tw4517560463748656503:True:=⟨⟩
theorem tw14577027041581768965:True:=⟨⟩
theorem tw3997487885647526937:True:=⟨⟩
theorem tw17659185236578331656:True:=⟨⟩
theorem tw2474200967059427378:True:=⟨⟩
theorem tw6851275008772768644:True:=⟨⟩
theorem tw10611411778653204182:True:=⟨⟩
theorem tw14196522196718054806:True:=⟨⟩
theorem tw4607425872040536859:True:=⟨⟩
theorem tw8725675927981157988:True:=⟨⟩
theorem tw18095796173783872564:True:=⟨⟩
theorem tw12353832898886458896:True:=⟨⟩
theorem tw6046103115902281144:True:=⟨⟩
theorem tw11402884983299125971:True:=⟨⟩
theorem tw11205608169257636508:True:=⟨⟩
theorem tw8176730645128964420:True:=⟨⟩
theorem tw6602950584830755452:True:=⟨⟩
theorem tw628631919661052299:True:=⟨⟩
theorem tw7777280633956137809:True:=⟨⟩
theorem tw17658959251048325594:True:=⟨⟩
theorem tw10988312798546598065:True:=⟨⟩
theorem tw6733606326906232124:True:=⟨⟩
theorem tw8833860146974802555:True:=⟨⟩
theorem tw3713540243193553862:True:=⟨⟩
theorem tw17731313482808627303:True:=⟨⟩
theorem tw17082689572870858151:True:=⟨⟩
theorem tw13931877327420345601:True:=⟨⟩
theorem tw7001957589650049515:True:=⟨⟩
theorem tw16626521671886133394:True:=⟨⟩
theorem tw3681537716864247207:True:=⟨⟩
theorem tw9878177214627512989:True:=⟨⟩
theorem tw11502921971960690029:True:=⟨⟩
theorem tw7485256538410118956:True:=⟨⟩
theorem tw14782954611325821827:True:=⟨⟩
theorem tw360634875079729221:True:=⟨⟩
theorem tw1142673529048489019:True:=⟨⟩
theorem tw12773500944031208451:True:=⟨⟩
theorem tw4333590680753393835:True:=⟨⟩
theorem tw5783627655825047438:True:=⟨⟩
theorem tw429539710256275620:True:=⟨⟩
theorem tw11384182702204212275:True:=⟨⟩
theorem tw16225155776284182838:True:=⟨⟩
theorem tw9757595895972200118:True:=⟨⟩
theorem tw3953844824629472508:True:=⟨⟩
theorem tw2869065659524454656:True:=⟨⟩
theorem tw9402243437249704421:True:=⟨⟩
theorem tw646091604453992162:True:=⟨⟩
theorem tw2213964242967304950:True:=⟨⟩
theorem tw11373181179767321252:True:=⟨⟩
theorem tw16872663757069071308:True:=⟨⟩
theorem tw3726453103677007866:True:=⟨⟩
theorem tw13710940844802916613:True:=⟨⟩
theorem tw4561898282857576226:True:=⟨⟩
theorem tw9387514328989991554:True:=⟨⟩
theorem tw6327569006664949090:True:=⟨⟩
theorem tw14170518179582410385:True:=⟨⟩
theorem tw11207431853666184334:True:=⟨⟩
theorem tw7091221385724896812:True:=⟨⟩
theorem tw3665444673518743966:True:=⟨⟩
theorem tw2595585439558603231:True:=⟨⟩
theorem tw6568467687531709037:True:=⟨⟩
theorem tw16728255500844073214:True:=⟨⟩
theorem tw5404398260228975080:True:=⟨⟩
theorem tw4096438862311573950:True:=⟨⟩
theorem tw14560624547652848805:True:=⟨⟩
theorem tw14611616552423853409:True:=⟨⟩
theorem tw14689541978594310382:True:=⟨⟩
theorem tw8222940686941784037:True:=⟨⟩
theorem tw14537775516033599862:True:=⟨⟩
theorem tw4946147512530127568:True:=⟨⟩
theorem tw86012387029904805:True:=⟨⟩
theorem tw18220031379085947620:True:=⟨⟩
theorem tw3374319085511977134:True:=⟨⟩
theorem tw1979317910248211280:True:=⟨⟩
theorem tw12405761042648551022:True:=⟨⟩
theorem tw8047209995159408440:True:=⟨⟩
theorem tw11401859456886640639:True:=⟨⟩
theorem tw8212203176049278890:True:=⟨⟩
theorem tw11907897558876765624:True:=⟨⟩
theorem tw7867829370405329436:True:=⟨⟩
theorem tw17483705464198625004:True:=⟨⟩
theorem tw4683681711962371626:True:=⟨⟩
theorem tw6880980288501444468:True:=⟨⟩
theorem tw4859391219904099992:True:=⟨⟩
theorem tw18150448366888777194:True:=⟨⟩
theorem tw3308634892276815127:True:=⟨⟩
theorem tw12747814925858328940:True:=⟨⟩
theorem tw4309217394794523951:True:=⟨⟩
theorem tw6030501089693204938:True:=⟨⟩
theorem tw1070438729232803039:True:=⟨⟩
theorem tw12320846421978348468:True:=⟨⟩
theorem tw8219003486749837733:True:=⟨⟩
theorem tw3042748168174471775:True:=⟨⟩
theorem tw1972164579936704799:True:=⟨⟩
theorem tw3641951560692057861:True:=⟨⟩
theorem tw17760279517084355780:True:=⟨⟩
theorem tw4548300405975405348:True:=⟨⟩
theorem tw3300257896294614128:True:=⟨⟩
theorem tw12858089460409395330:True:=⟨⟩
theorem tw8432719020341155521:True:=⟨⟩
theorem tw17318462890700432884:True:=⟨⟩
theorem tw5072417060200589145:True:=⟨⟩
theorem tw18101783494082082527:True:=⟨⟩
theorem tw9689729476882780088:True:=⟨⟩
theorem tw16260866306193365299:True:=⟨⟩
theorem tw4860023922305330110:True:=⟨⟩
theorem tw296083027919845158:True:=⟨⟩
theorem tw17016834523296244275:True:=⟨⟩
theorem tw11564986514327137767:True:=⟨⟩
theorem tw9592521066531166775:True:=⟨⟩
theorem tw3971525946579005399:True:=⟨⟩
theorem tw14827714588952709054:True:=⟨⟩
theorem tw7424060955962978353:True:=⟨⟩
theorem tw15433366417846715934:True:=⟨⟩
theorem tw9536688357841153863:True:=⟨⟩
theorem tw14760874974797668852:True:=⟨⟩
theorem tw3985964047577975286:True:=⟨⟩
theorem tw10539347186207431242:True:=⟨⟩
theorem tw14935467056822913822:True:=⟨⟩
theorem tw18407495941553956032:True:=⟨⟩
theorem tw17435391645217708394:True:=⟨⟩
theorem tw5515903443438498500:True:=⟨⟩
theorem tw8733291241859026926:True:=⟨⟩
theorem tw16792556548410726896:True:=⟨⟩
theorem tw16248296213531012650:True:=⟨⟩
theorem tw443766864951011646:True:=⟨⟩
theorem tw547895379624588593:True:=⟨⟩
theorem tw18328257000508772394:True:=⟨⟩
theorem tw9860861378791804195:True:=⟨⟩
theorem tw12382822922155266910:True:=⟨⟩
theorem tw87601786513091389:True:=⟨⟩
theorem tw4171853373547519906:True:=⟨⟩
theorem tw8981176238543900561:True:=⟨⟩
theorem tw11707130962622978684:True:=⟨⟩
theorem tw2754379104384642236:True:=⟨⟩
theorem tw12550775161083096063:True:=⟨⟩
theorem tw3543459598558145280:True:=⟨⟩
theorem tw5537553045615171315:True:=⟨⟩
theorem tw15402603294489630176:True:=⟨⟩
theorem tw2941924889016668590:True:=⟨⟩
theorem tw13539809779269347639:True:=⟨⟩
theorem tw3239113980409921550:True:=⟨⟩
theorem tw2345282404023599388:True:=⟨⟩
theorem tw6105849179199505303:True:=⟨⟩
theorem tw1401067106901849026:True:=⟨⟩
theorem tw10988764466652934233:True:=⟨⟩
theorem tw9972681490609642005:True:=⟨⟩
theorem tw3235425350174046738:True:=⟨⟩
theorem tw15012102849882553082:True:=⟨⟩
theorem tw1835201335921387983:True:=⟨⟩
theorem tw15235614512728720:True:=⟨⟩
theorem tw11434409910335936926:True:=⟨⟩
theorem tw896239598344801917:True:=⟨⟩
theorem tw12738610918357793766:True:=⟨⟩
theorem tw17986951261819808105:True:=⟨⟩
theorem tw12188032599808994241:True:=⟨⟩
theorem tw14474530201714352570:True:=⟨⟩
theorem tw4635989785427082552:True:=⟨⟩
theorem tw8997383693586321770:True:=⟨⟩
theorem tw16409965706819354750:True:=⟨⟩
theorem tw11962351593759143498:True:=⟨⟩
theorem tw9381626543082597023:True:=⟨⟩
theorem tw5522115075389312692:True:=⟨⟩
theorem tw18060508904421208200:True:=⟨⟩
theorem tw9223045988441327695:True:=⟨⟩
theorem tw8080008513338510535:True:=⟨⟩
theorem tw18418582437962087742:True:=⟨⟩
theorem tw8912161614967838395:True:=⟨⟩
theorem tw13255938527306859382:True:=⟨⟩
theorem tw17351735930882485243:True:=⟨⟩
theorem tw699815216081779126:True:=⟨⟩
theorem tw1000662321505670351:True:=⟨⟩
theorem tw9404705873571188630:True:=⟨⟩
theorem tw12528221419883600679:True:=⟨⟩
theorem tw3721919958574915784:True:=⟨⟩
theorem tw3394231194617021968:True:=⟨⟩
theorem tw11757307120078846540:True:=⟨⟩
theorem tw13757698761724263525:True:=⟨⟩
theorem tw7480016910919988345:True:=⟨⟩
theorem tw4699756791338806529:True:=⟨⟩
theorem tw5438652380644606353:True:=⟨⟩
theorem tw15779231459743154856:True:=⟨⟩
theorem tw9456574344343218679:True:=⟨⟩
theorem tw12772213712371865176:True:=⟨⟩
theorem tw2353497105660221152:True:=⟨⟩
theorem tw2455152089536381482:True:=⟨⟩
theorem tw9977182230042388008:True:=⟨⟩
theorem tw16670775579421159206:True:=⟨⟩
theorem tw16120054744476736488:True:=⟨⟩
theorem tw5702276774652866934:True:=⟨⟩
theorem tw12269216009862288129:True:=⟨⟩
theorem tw11429584451438056573:True:=⟨⟩
theorem tw3328811466098603303:True:=⟨⟩
theorem tw8752102160057688731:True:=⟨⟩
theorem tw5462360663327728810:True:=⟨⟩
theorem tw1537541725227008683:True:=⟨⟩
theorem tw10538165733446703262:True:=⟨⟩
theorem tw4163956849929007166:True:=⟨⟩
theorem tw1342123614928995077:True:=⟨⟩
theorem tw7350462372000428638:True:=⟨⟩
theorem tw10146569101766770184:True:=⟨⟩
theorem tw2846267367221353805:True:=⟨⟩
theorem tw2046362190076281809:True:=⟨⟩
theorem tw9806118890596472461:True:=⟨⟩
theorem tw2765187732825374138:True:=⟨⟩
theorem tw727553628536289456:True:=⟨⟩
theorem tw12681666616541194006:True:=⟨⟩
theorem tw1378205811072252300:True:=⟨⟩
theorem tw1177135801721737414:True:=⟨⟩
theorem tw12250869413391326473:True:=⟨⟩
theorem tw16636501806038632012:True:=⟨⟩
theorem tw17721149768220346479:True:=⟨⟩
theorem tw13936439389310444312:True:=⟨⟩
theorem tw994754419278398160:True:=⟨⟩
theorem tw17937168697417666835:True:=⟨⟩
theorem tw599730875272715187:True:=⟨⟩
theorem tw9719393640593047967:True:=⟨⟩
theorem tw3303267245142563540:True:=⟨⟩
theorem tw6782663255696616371:True:=⟨⟩
theorem tw11153475782318119604:True:=⟨⟩
theorem tw12468840222048715292:True:=⟨⟩
theorem tw5286648830458609394:True:=⟨⟩
theorem tw256976265262469064:True:=⟨⟩
theorem tw17852080271459398996:True:=⟨⟩
theorem tw5388589039460942527:True:=⟨⟩
theorem tw17346623794827051843:True:=⟨⟩
theorem tw13831308528885131752:True:=⟨⟩
theorem tw17577329170770402720:True:=⟨⟩
theorem tw3395767286715763500:True:=⟨⟩
theorem tw11024694936033576346:True:=⟨⟩
theorem tw13913613514976480042:True:=⟨⟩
theorem tw16721508838639397229:True:=⟨⟩
theorem tw1860734739432930892:True:=⟨⟩
theorem tw10158677189637292467:True:=⟨⟩
theorem tw2527701527901579348:True:=⟨⟩
theorem tw1891733041441978011:True:=⟨⟩
theorem tw8185220541750880888:True:=⟨⟩
theorem tw14961746396406840608:True:=⟨⟩
theorem tw5277677811754103808:True:=⟨⟩
theorem tw1848955828906020544:True:=⟨⟩
theorem tw5289818103960998278:True:=⟨⟩
theorem tw6044310133024360374:True:=⟨⟩
theorem tw12298192366917762067:True:=⟨⟩
theorem tw16005714805435085966:True:=⟨⟩
theorem tw14869962595670455896:True:=⟨⟩
theorem tw3335794202401238526:True:=⟨⟩
theorem tw17946048357616127039:True:=⟨⟩
theorem tw17163426234232328066:True:=⟨⟩
theorem tw16947231599799070506:True:=⟨⟩
theorem tw12053924596057091436:True:=⟨⟩
theorem tw16247262843940693239:True:=⟨⟩
theorem tw16053306600634468012:True:=⟨⟩
theorem tw206757683497733573:True:=⟨⟩
theorem tw16615150188913437886:True:=⟨⟩
theorem tw14849461344987154502:True:=⟨⟩
theorem tw5010956058597451964:True:=⟨⟩
theorem tw17691633702590694504:True:=⟨⟩
theorem tw6325675986683464353:True:=⟨⟩
theorem tw3344036261162260069:True:=⟨⟩
theorem tw7387728532749555685:True:=⟨⟩
theorem tw14074196154385387334:True:=⟨⟩
theorem tw1941844328875101383:True:=⟨⟩
theorem tw15240619367488684849:True:=⟨⟩
theorem tw14261769069557060686:True:=⟨⟩
theorem tw5449563278759341024:True:=⟨⟩
theorem tw14556482736207283325:True:=⟨⟩
theorem tw13937768818610491111:True:=⟨⟩
theorem tw4493901809537577575:True:=⟨⟩
theorem tw9162645422354645296:True:=⟨⟩
theorem tw5662061979359257339:True:=⟨⟩
theorem tw3075201292733833056:True:=⟨⟩
theorem tw6657536258744368796:True:=⟨⟩
theorem tw8995945545434573385:True:=⟨⟩
theorem tw16925712312323332580:True:=⟨⟩
theorem tw12669407529647801677:True:=⟨⟩
theorem tw4993863958327201973:True:=⟨⟩
theorem tw4413860948169739490:True:=⟨⟩
theorem tw10479991185640055810:True:=⟨⟩
theorem tw4449799235075362730:True:=⟨⟩
theorem tw5832146486336120021:True:=⟨⟩
theorem tw7407744344239389898:True:=⟨⟩
theorem tw13366278800048369731:True:=⟨⟩
theorem tw7520747337044880989:True:=⟨⟩
theorem tw5909976876416983842:True:=⟨⟩
theorem tw7422445781565681216:True:=⟨⟩
theorem tw16103829930404553856:True:=⟨⟩
theorem tw14736888041290939073:True:=⟨⟩
theorem tw5171440476677080432:True:=⟨⟩
theorem tw14404928986312190071:True:=⟨⟩
theorem tw866717566613908145:True:=⟨⟩
theorem tw15621415185263527259:True:=⟨⟩
theorem tw885948055608056263:True:=⟨⟩
theorem tw4313010194945074917:True:=⟨⟩
theorem tw13127508451798649013:True:=⟨⟩
theorem tw2386784164831690217:True:=⟨⟩
theorem tw6208910965292489261:True:=⟨⟩
theorem tw8865387616306378214:True:=⟨⟩
theorem tw463774138113389760:True:=⟨⟩
theorem tw10161179621583223854:True:=⟨⟩
theorem tw10388488172074580225:True:=⟨⟩
theorem tw8356303796347215682:True:=⟨⟩
theorem tw6331431999304432861:True:=⟨⟩
theorem tw17339309145561079191:True:=⟨⟩
theorem tw16412085850373738351:True:=⟨⟩
theorem tw17916429707943930468:True:=⟨⟩
theorem tw14715273107921467267:True:=⟨⟩
theorem tw17260811203177919210:True:=⟨⟩
theorem tw3099597729799864441:True:=⟨⟩
theorem tw9615563845995560447:True:=⟨⟩
theorem tw8272569733616993153:True:=⟨⟩
theorem tw5634867526602368427:True:=⟨⟩
theorem tw3897268976836264337:True:=⟨⟩
theorem tw402139726102294341:True:=⟨⟩
theorem tw10879749546641988924:True:=⟨⟩
theorem tw14958820412457663293:True:=⟨⟩
theorem tw17980500129456985241:True:=⟨⟩
theorem tw1207101557538958131:True:=⟨⟩
theorem tw2400638427578300857:True:=⟨⟩
theorem tw14226173905949225808:True:=⟨⟩
theorem tw8159993647027272844:True:=⟨⟩
theorem tw2135409205425526673:True:=⟨⟩
theorem tw14746253646979254834:True:=⟨⟩
theorem tw9784134513789038367:True:=⟨⟩
theorem tw11180800956215176064:True:=⟨⟩
theorem tw6631347999910079877:True:=⟨⟩
theorem tw384561282630992784:True:=⟨⟩
theorem tw2692750590507578028:True:=⟨⟩
theorem tw1039362940862242169:True:=⟨⟩
theorem tw3668986818325518241:True:=⟨⟩
theorem tw6557801498797044033:True:=⟨⟩
theorem tw1266446861824636:True:=⟨⟩
theorem tw977512076041815475:True:=⟨⟩
theorem tw5078490731148736755:True:=⟨⟩
theorem tw8757050672659960515:True:=⟨⟩
theorem tw10510019762269167821:True:=⟨⟩
theorem tw13855379610559885079:True:=⟨⟩
theorem tw17271881437230615512:True:=⟨⟩
theorem tw7557421358154311045:True:=⟨⟩
theorem tw12960429369202013873:True:=⟨⟩
theorem tw7414940336731374808:True:=⟨⟩
theorem tw14903569129155370506:True:=⟨⟩
theorem tw17397653436517662659:True:=⟨⟩
theorem tw14081431093454284249:True:=⟨⟩
theorem tw17382457898008728272:True:=⟨⟩
theorem tw12740759652641322565:True:=⟨⟩
theorem tw6945566481307383155:True:=⟨⟩
theorem tw18031968618487185184:True:=⟨⟩
theorem tw2466311954974566718:True:=⟨⟩
theorem tw1534296983418709675:True:=⟨⟩
theorem tw4841648585890091472:True:=⟨⟩
theorem tw18183970276198133131:True:=⟨⟩
theorem tw6828597562223498359:True:=⟨⟩
theorem tw4449297822257671152:True:=⟨⟩
theorem tw5362065267786361690:True:=⟨⟩
theorem tw14710976976299594304:True:=⟨⟩
theorem tw14811890972901180937:True:=⟨⟩
theorem tw14904681115217272601:True:=⟨⟩
theorem tw9363214764283991203:True:=⟨⟩
theorem tw17713387462200973399:True:=⟨⟩
theorem tw5037459499596335280:True:=⟨⟩
theorem tw855453113358079251:True:=⟨⟩
theorem tw11263768400469242888:True:=⟨⟩
theorem tw16203965252921439515:True:=⟨⟩
theorem tw15883763524195236716:True:=⟨⟩
theorem tw10844150739181073093:True:=⟨⟩
theorem tw5459702643516471331:True:=⟨⟩
theorem tw6162269159774324313:True:=⟨⟩
theorem tw9159244108252522374:True:=⟨⟩
theorem tw6084841979344569690:True:=⟨⟩
theorem tw11066385474520676512:True:=⟨⟩
theorem tw1642651162322924780:True:=⟨⟩
theorem tw6701911527682315725:True:=⟨⟩
theorem tw8285278889055680438:True:=⟨⟩
theorem tw5323657890516693427:True:=⟨⟩
theorem tw15895094517606616290:True:=⟨⟩
theorem tw17014754193936795334:True:=⟨⟩
theorem tw14329579894275425762:True:=⟨⟩
theorem tw2781137557867543911:True:=⟨⟩
theorem tw14154597600763967237:True:=⟨⟩
theorem tw9525436842865473142:True:=⟨⟩
theorem tw1484650774730072618:True:=⟨⟩
theorem tw15861351967447197489:True:=⟨⟩
theorem tw5493063752884776336:True:=⟨⟩
theorem tw14592624751514493413:True:=⟨⟩
theorem tw4341293187932698999:True:=⟨⟩
theorem tw2694234056635809718:True:=⟨⟩
theorem tw615563214671542189:True:=⟨⟩
theorem tw1783128247137549839:True:=⟨⟩
theorem tw772564365185477556:True:=⟨⟩
theorem tw11844019762684407370:True:=⟨⟩
theorem tw10713865542653931438:True:=⟨⟩
theorem tw1725486776273817318:True:=⟨⟩
theorem tw539538531456391632:True:=⟨⟩
theorem tw8140498317509980888:True:=⟨⟩
theorem tw15925456577456769635:True:=⟨⟩
theorem tw13547939009206843870:True:=⟨⟩
theorem tw10192404496044350798:True:=⟨⟩
theorem tw209982475168477708:True:=⟨⟩
theorem tw9103314591280073668:True:=⟨⟩
theorem tw14963028359598502718:True:=⟨⟩
theorem tw17049750858520166293:True:=⟨⟩
theorem tw12307553483252862823:True:=⟨⟩
theorem tw14571933256774908962:True:=⟨⟩
theorem tw13629772047308552242:True:=⟨⟩
theorem tw14172470266813156586:True:=⟨⟩
theorem tw10551173667578312727:True:=⟨⟩
theorem tw523537741815420091:True:=⟨⟩
theorem tw13631397514672939371:True:=⟨⟩
theorem tw4580019852769339753:True:=⟨⟩
theorem tw2867421004237479119:True:=⟨⟩
theorem tw2638924239945547994:True:=⟨⟩
theorem tw2754868194923854518:True:=⟨⟩
theorem tw15150329256914348856:True:=⟨⟩
theorem tw11308061921803828041:True:=⟨⟩
theorem tw2641800013201688601:True:=⟨⟩
theorem tw16217903435359918192:True:=⟨⟩
theorem tw18383651708701053236:True:=⟨⟩
theorem tw5055593616971399804:True:=⟨⟩
theorem tw16151628708876355199:True:=⟨⟩
theorem tw13265978090383273239:True:=⟨⟩
theorem tw6128145076113358165:True:=⟨⟩
theorem tw10341888390210383824:True:=⟨⟩
theorem tw5960047855520388891:True:=⟨⟩
theorem tw7249310025045793396:True:=⟨⟩
theorem tw14664691819916384248:True:=⟨⟩
theorem tw12717557048674177747:True:=⟨⟩
theorem tw2228412568605170491:True:=⟨⟩
theorem tw12930229547647579594:True:=⟨⟩
theorem tw13885670934486923800:True:=⟨⟩
theorem tw17862349074038704544:True:=⟨⟩
theorem tw5233118043267047457:True:=⟨⟩
theorem tw247591363613054380:True:=⟨⟩
theorem tw2595618661548880785:True:=⟨⟩
theorem tw5661595848482461739:True:=⟨⟩
theorem tw11881533405517379953:True:=⟨⟩
theorem tw8392358500681263680:True:=⟨⟩
theorem tw5008593111378822452:True:=⟨⟩
end PySem.W.Fast
set_option maxHeartbeats 0 in
open_top hd for PySem.Challenge.rw_sharewheel_k75_each_refusal_by_itself
open PySem.W renaming Frag→aa, findIn→ai, keepIn→ay, fnOf→aT, excIn→aV, codeIn→bD, mg_of→bO, kitOne→bW, takerIn→bX, emptyDict→dN, InstAt→eA, callWith_K→eB, typeIn→eE, instObj→eL, tailIn→eY, isFn→e8, mroIn→fB, hasDictIn→fE, subIn→fV, makesIn→gb, specialIn→gI, lookIn→jb, tail_of_in→jc, plainGet→jX, cellsFrom_some→kq, nsIn→kr, methodCall_KW→kJ, notCls→lQ, plainGet_of→mO, methodObj→oU, OpenLaw→rK, takesIn→rL, clsIn→u9, hideAll_none→yb, looks_findIn→yc, callWith_K0→zg, hideAll_get→zh, codeRec_of→Ao, of_hideAll→Aq, plainOver→Bj, any_some→BO, handedIn→BP, bind_fn→Dm, findCls→Dn, findObj→Dp, hideAll→Dq, readsIn→Dr, kitCls→D5, WalkO→EY
open List renaming mem_cons_of_mem→af, mem_cons→ah, length_map→aj, mem_cons_self→aq, mem_append→aA, map_append→aC, mem_singleton→aD, getElem?_eq_some_iff→aE, nodup_cons→aL, map_cons→aM, append_nil→aN, size_toArray→aP, length_nil→aU, mem_map→aZ, mem_append_right→bq, find?_cons→bz, length_cons→bG, nodup_append→bS, length_append→bY, mem_flatMap→b5, take_of_length_le→b6, contains_cons→dh, getElem?_map→dO, not_mem_nil→eG, length_take→eZ, nil_append→fD, mem_append_left→fK, mem_of_getElem?→fL, cons_append→fT, map_congr_left→fZ, getElem?_eq_getElem→gu, lookup→gG, flatMap_cons→gZ, getElem?_set_self→g6, replicate→g7, length_filter_le→ir, all_eq_true→iy, filter_cons→iz, getElem_mem→iA, length_drop→iB, flatMap_append→iZ, filter_append→jz, getD_eq_getElem?_getD→jA, getElem?_append_right→jB, range→jC, set_cons_succ→jD, set_cons_zero→jE, any_cons→j2, getElem?_cons_succ→kC, getElem?_cons_zero→kD, take_length→kE, map_nil→lj, mem_filter→lM, of_mem_zip→lN, getElem?_eq_none→lZ, getElem?_set_ne→m5, length→m6, filterMap_cons→oE, length_reverse→oF, append_of_mem→pJ, mem_filterMap→pK, map_map→qS, take_succ_eq_append_getElem→qT, lookup_cons→tJ, map_reverse→tK, mem_range→vZ, drop_eq_getElem_cons→ww, extract_eq_drop_take→wz, getElem?_append_left→wA, mem_of_find?_eq_some→wB, getElem?_take_of_lt→xF, getElem?_replicate→xZ, length_eq_zero_iff→x6, length_singleton→Al, find?_eq_none→Di, append_assoc→DV, find?_append→DW, reverse_cons→DX, take_add_one→DY, flatMap_nil→EW, getElem_inj→EX, find?_some→Gf, filterMap→HN
open Nat renaming le_refl→ao, lt_of_lt_of_le→av, ne_of_lt→aJ, le_trans→bf, zero_le→di, lt_irrefl→dU, le_succ→gK, pow_le_pow_right→iN, ne_of_gt→lO, le_of_lt→rH, lt_succ_of_lt→rJ, two_pow_pos→u8, le_mul_of_pos_right→zf, lt_trans→Am, pow_succ→An, Coprime→BL, log2_lt→BN, lt_of_le_of_lt→DZ, lt_succ_self→Gh, reduceLeDiff→Gi, succ_ne_self→Gj
open PySem renaming Spec→aF, mem_of_lookup→dP, Within→yd, evalArgs_none→Bl, call→BQ, intText?→Gm
open Bool renaming false_ne_true→aG, and_eq_true→eF, eq_iff_iff→eO, not_eq_true'→jU, or_true→lg, false_eq_true→pI, true_or→zb, true_eq_false→Dh, and_false→HG, not_false→HH
open Sum renaming inr→aH, inl→rO
open Option.some renaming inj→aK, injEq→xH
open False renaming elim→aX
open Int renaming eq_ofNat_of_zero_le→br, emod_lt_of_pos→bM, emod_nonneg→bZ, mul_ne_zero→gF, mul_comm→g9, mul_assoc→iJ, ediv_mul_cancel→jf, le_of_lt→lJ, lt_or_le→lK, natAbs_dvd_natAbs→mG, natAbs_mul→nj, natAbs_natCast→pY, natCast_nonneg→pZ, neg_dvd→uu, emod_two_eq→u6, ediv_eq_of_eq_mul_right→vY, eq_of_mul_eq_mul_right→wu, fdiv_eq_ediv_of_dvd→ze, ediv_neg→Ak, mul_ediv_cancel'→BJ, natAbs→DU, dvd_mul_right→EV, dvd_antisymm→Gb, reduceToNat→HK
open True renaming intro→bB
open Rat renaming intCast_mul→bH, min_def→uv, intCast_inj→vc, den_intCast→HR, intCast_sub→HS, num_intCast→HU
open PySem.F renaming plainAttrs_list→bT, slot_list_append→b9, type_list_append→cj, excBase_ValueError→dM, attr_ValueError→gv, plainAttrs_str→gH, plainAttrs_dict→v5, slot_dict_items→v7, entry_bexc_ga→xJ, slot_dict_pop→xK, args_bexc_ga→ya
open Ne renaming symm→bV
open Option renaming bind_some→dQ, isSome_iff_exists→f9, map_some→kI, isSome_map→pL, map_eq_some_iff→xG, getD_none→Dk
open PyProof.Rows renaming callWith_type1→e7, toString_length_le→mL
open PySem.SeqAt renaming shaped→fO
open Array renaming length_toList→iX, getElem?_eq_some_iff→jj, getElem?_toList→lI, getElem?_eq_getElem→vW, toList_extract→Af, toList_append→Bg, append_assoc→BC
open PySem.NumText renaming digitsVal→ja
open Sum.inr renaming inj→jG
open ForInStep renaming yield→j1
open Char renaming ofNat→vX
open List.cons renaming injEq→Bh
open Eq renaming symm→Ga
namespace L2
open PySem PySem.Spec PyProof.Rows
abbrev Key:=Sum Int Str
def uH:Key->Value->Bool
 | .inl k,v=>Value.isInt k v
 | .inr x,v=>Value.isStrOf x v
def Nx(w:World):Key->Int
 | .inl k=>hashInt k
 | .inr x=>hashStr w x
theorem DG:∀{k:Key}{v:Value},uH k v=true->(∃i t,k=rO i/\v=Value.int i t)\/(∃x t,k=aH x/\v=Value.str x t)
 | .inl i,v,h=>by obtain⟨t,e⟩:=Value.isInt_shape (k:=i) (v:=v) h;exact .inl ⟨i,t,rfl,e⟩
 | .inr x,v,h=>by obtain⟨t,e⟩:=Value.isStrOf_shape (x:=x) (v:=v) h;exact .inr ⟨x,t,rfl,e⟩
theorem YD(i:Int)(t:Tok):uH (.inl i) (.int i t)=true:=by simp[uH,Value.isInt]
theorem YE(x:Str)(t:Tok):uH (.inr x) (.str x t)=true:=by simp[uH,Value.isStrOf]
theorem zxt(a b:Int):decide ((rO a:Key)=rO b)=(a ==b):=by
 by_cases e:a=b
 ·subst e;simp
 ·have h:¬(rO a:Key)=rO b:=fun q=>e (Sum.inl.inj q);rw[decide_eq_false h];exact(beq_eq_false_iff_ne.mpr e).symm
theorem zxu(a b:Str):decide ((aH a:Key)=aH b)=decide (a=b):=by
 by_cases e:a=b
 ·subst e;simp
 ·have h:¬(aH a:Key)=aH b:=fun q=>e (jG q);rw[decide_eq_false h,decide_eq_false e]
theorem zxv(a:Int)(b:Str):decide ((rO a:Key)=aH b)=false:=decide_eq_false (fun q=>nomatch q)
theorem zxw(a:Str)(b:Int):decide ((aH a:Key)=rO b)=false:=decide_eq_false (fun q=>nomatch q)
def qZ(prog:Program)(w:World):PySem.KeyKind prog w Key where
 is:=uH
 hash:=Nx w
 inj:=fun v a b ha hb=>by
  rcases DG ha with⟨i,t,rfl,rfl⟩ |⟨x,t,rfl,rfl⟩
  ·rcases DG hb with⟨j,u,rfl,e⟩ |⟨y,u,rfl,e⟩
   ·injection e with e1 _;rw[e1]
   ·exact nomatch e
  ·rcases DG hb with⟨j,u,rfl,e⟩ |⟨y,u,rfl,e⟩
   ·exact nomatch e
   ·injection e with e1 _;rw[e1]
 byValue:=fun k v h=>by rcases DG h with⟨i,t,rfl,rfl⟩ |⟨x,t,rfl,rfl⟩ <;> rfl
 pyHash:=fun hv h=>by
  rcases DG hv with⟨i,t,rfl,rfl⟩ |⟨x,t,rfl,rfl⟩
  ·exact wpAny_pyHash_int h
  ·exact wpAny_pyHash_str h
 eqBool:=fun hu hv h=>by
  rcases DG hu with⟨i,t,rfl,rfl⟩ |⟨x,t,rfl,rfl⟩
  ·rcases DG hv with⟨j,u,rfl,rfl⟩ |⟨y,u,rfl,rfl⟩
   ·rw[zxt]at h;exact wpAny_eqBool_int h
   ·rw[zxv]at h;exact SeqAt.EqAt.int_str i t y u _ _ _ _ h
  ·rcases DG hv with⟨j,u,rfl,rfl⟩ |⟨y,u,rfl,rfl⟩
   ·rw[zxw]at h;exact SeqAt.EqAt.str_int x t j u _ _ _ _ h
   ·rw[zxu]at h;exact wpAny_eqBool_str h
 «strs»:=fun k x t v h=>by
  rcases DG h with⟨i,u,rfl,e⟩ |⟨y,u,rfl,e⟩
  ·exact nomatch e
  ·injection e with e1 _
   subst e1;cases v <;> rfl
theorem XX(prog:Program)(w:World)(i:Int)(t:Tok):(qZ prog w).is (.inl i) (.int i t)=true:=YD i t
theorem XY(prog:Program)(w:World)(x:Str)(t:Tok):(qZ prog w).is (.inr x) (.str x t)=true:=YE x t
inductive V where
 |non|bl (b:Bool) |int (i:Int) |str (x:Str) |byt (b:Array UInt8) |flt (b:UInt64) |ref (a:Addr) |ty (n:String)
 deriving DecidableEq
def RelV:V->Value->Prop
 | .non,u=>u=Value.none
 | .bl b,u=>u=Value.bool b
 | .int i,u=>∃t,u=Value.int i t
 | .str x,u=>∃t,u=Value.str x t
 | .byt b,u=>∃t,u=Value.bytes b t
 | .flt b,u=>∃t,u=Value.float b t
 | .ref a,u=>u=Value.ref a
 | .ty n,u=>u=Value.type n
abbrev bP:List V->List Value->Prop:=Paired RelV
theorem bP.length{xs:List V}{us:List Value}(r:bP xs us):xs.length=us.length:=Paired.length r
theorem bP.get:∀{xs:List V}{us:List Value}{i:Nat}{x:V},bP xs us->xs[i]?=some x->∃u,us[i]?=some u/\RelV x u
 |_,_,_,_,.nil,e=>by simp at e
 |_,_,0,_,.cons r _,e=>by simp at e;subst e;exact⟨_,rfl,r⟩
 |_,_,i+1,x,.cons _ t,e=>by obtain⟨u,h1,h2⟩:=bP.get (i:=i) (x:=x) t (by simpa using e);exact⟨u,by simpa using h1,h2⟩
theorem bP.append:∀{xs ys:List V}{us ws:List Value},bP xs us->bP ys ws->bP (xs++ys) (us++ws)
 |_,_,_,_,.nil,s=>s
 |_,_,_,_,.cons r t,s=>.cons r (bP.append t s)
theorem bP.take:∀{xs:List V}{us:List Value}(n:Nat),bP xs us->bP (xs.take n) (us.take n)
 |_,_,0,_=>.nil
 |_,_,_+1,.nil=>.nil
 |_,_,n+1,.cons r t=>.cons r (bP.take n t)
theorem bP.drop:∀{xs:List V}{us:List Value}(n:Nat),bP xs us->bP (xs.drop n) (us.drop n)
 |_,_,0,r=>r
 |_,_,_+1,.nil=>.nil
 |_,_,n+1,.cons _ t=>bP.drop n t
def jn:Option V->Option Value->Prop
 |some v,some u=>RelV v u
 |none,none=>True
 |_,_=>False
def KV{κ:Type}:List (κ×V)->List (κ×Value)->Prop:=Paired fun(p:κ×V)(q:κ×Value)=>p.1=q.1/\RelV p.2 q.2
def kV:Key->V
 | .inl i=>.int i
 | .inr x=>.str x
inductive HO where
 |lst (xs:List V)
 |tup (xs:List V)
 |dK (aI:List (Key×V)) |dT (aI:List (List Key×V))
 |set (S:Int->Bool) (n:Nat)
 |ins (C dx:Addr) (fs:List (Str×V))
 |own (x:Addr)
 |xd (fs:List (Str×V))
 |met (f x:Addr)
 |rng (lo hi:Int)
 |frz (o:Obj) (u:HO)
 |tbl (ps:Array Value)
 |ext (φ:Heap->Prop)
abbrev Hp:=Addr->Option HO
def aB(H:Hp)(a:Addr)(o:HO):Hp:=fun b=>if b=a then some o else H b
theorem bh{H:Hp}{a:Addr}{o:HO}:aB H a o a=some o:=by unfold aB;rw[if_pos rfl]
theorem bw{H:Hp}{a b:Addr}{o:HO}(h:b≠a):aB H a o b=H b:=by unfold aB;rw[if_neg h]
theorem wj{H:Hp}{a:Addr}{o u:HO}:aB (aB H a o) a u=aB H a u:=by funext b;unfold aB;split <;> rfl
theorem bQ{H:Hp}{a b:Addr}{o u:HO}(h:H a=some o)(h':H b=some u)(d:o≠u):a≠b:=by intro e;subst e;rw[h]at h';exact d (aK h')
theorem gq{H:Hp}{a b:Addr}{o:HO}(h:H a=some o)(h':H b=none):a≠b:=by intro e;subst e;rw[h]at h';cases h'
section
variable(P:Program)(w:World)
def eT(H:Hp)(h:Heap)(a:Addr):HO->Prop
  | .lst xs=>xs.length<=sizeLine/\∃(dJ:List Value)(n:Nat),bP xs dJ/\h.get? a=some {cls:=.type "list",data:=.seq dJ.toArray n}
  | .tup xs=>xs.length<=sizeLine/\∃dJ:List Value,bP xs dJ/\IsTup h a dJ.toArray
  | .dK aI=>aI.length<=sizeLine/\(a ==sysModules)=false/\∃vs,KV aI vs/\h.DictOf (qZ P w) a vs
  | .dT aI=>aI.length<=sizeLine/\(a ==sysModules)=false/\∃xs:List (List Key×Addr×Value),
      Paired (fun(p:List Key×V)(q:List Key×Addr×Value)=>p.1=q.1/\H q.2.1=some (.tup (p.1.map kV))/\RelV p.2 q.2.2) aI xs/\
      ∃o es ep,h.get? a=some o/\o.ExactDict/\o.data= .dict es ep/\es.toList=xs.map (entryOfKey (tupleKind (qZ P w)))/\(xs.map (·.1)).Nodup
  | .set S n=>h.SetOf (intKind P w) a S n
  | .ins C dx fs=>H dx=some (.own a)/\fs.length<=1000/\dx≠a/\h.get? a=some (eL C dx)/\
      ∃mA,h.Ns1 dx mA/\(∀f,jn (fs.lookup f) (mA f))/\yd mA (fs.map (·.1))
  | .own _=>∃o,h.get? a=some o
  | .xd fs=>∃mA,h.Ns1 a mA/\∀f,jn (fs.lookup f) (mA f)
  | .rng lo hi=>∃t u v,h.get? a=some {cls:=.type "range",data:=.fields #[.int lo t,.int hi u,.int 1 v]}
  | .frz o u=>h.get? a=some o/\eT H h a u
  | .tbl ps=>h.get? a=some {cls:=.none,data:=.fields ps}
  | .met f x=>h.get? a=some (oU (.ref f) (.ref x))
  | .ext φ=>φ h/\(∃o,h.get? a=some o)/\∀h1 h2:Heap,φ h1->(∀o,h1.get? a=some o->h2.get? a=some o)->φ h2
def iY(H:Hp)(h:Heap):Prop:=∀a o,H a=some o->eT P w H h a o
end
section
variable{P:Program}{w:World}{H H':Hp}{h h':Heap}{a:Addr}{o:HO}
theorem eT.lt(x:eT P w H h a o):a<h.objs.size:=by
 cases o with
 |lst xs=>obtain⟨_,_,_,_,e⟩:=x;exact Heap.lt_size e
 |tup xs=>obtain⟨_,_,_,p⟩:=x;exact p.lt
 |dK aI=>obtain⟨_,_,_,_,o,_,_,e,_⟩:=x;exact Heap.lt_size e
 |dT aI=>obtain⟨_,_,_,_,o,_,_,e,_⟩:=x;exact Heap.lt_size e
 |set S n=>obtain⟨o,_,_,_,e,_⟩:=x;exact Heap.lt_size e
 |ins C dx fs=>obtain⟨_,_,_,e,_⟩:=x;exact Heap.lt_size e
 |own y=>obtain⟨_,e⟩:=x;exact Heap.lt_size e
 |xd fs=>obtain⟨_,⟨_,_,_,e,_⟩,_⟩:=x;exact Heap.lt_size e
 |rng lo hi=>obtain⟨_,_,_,e⟩:=x;exact Heap.lt_size e
 |frz ob u=>obtain⟨e,_⟩:=x;exact Heap.lt_size e
 |tbl ps=>exact Heap.lt_size (show h.get? a=some _ from x)
 |met f y=>exact Heap.lt_size (show h.get? a=some _ from x)
 |ext φ=>obtain⟨_,⟨_,e⟩,_⟩:=x;exact Heap.lt_size e
theorem Paired.yE{α β:Type}{F G:α->β->Prop}:∀{l₁:List α}{l₂:List β},Paired F l₁ l₂->(∀a b,F a b->G a b)->Paired G l₁ l₂
 |_,_,.nil,_=>.nil
 |_,_,.cons r t,f=>.cons (f _ _ r) (Paired.yE t f)
theorem eT.gm(x:eT P w H h a o)(k:∀b u,(b=a\/H b=some (.own a))->h.get? b=some u->h'.get? b=some u)(ho:∀b,H b=some (.own a)->H' b=some (.own a))(ht:∀b xs,H b=some (.tup xs)->H' b=some (.tup xs)):eT P w H' h' a o:=by
  induction o with
  |lst xs=>obtain⟨z,dJ,n,r,e⟩:=x;exact⟨z,dJ,n,r,k _ _ (.inl rfl) e⟩
  |tup xs=>obtain⟨z,dJ,r,ob,e,c⟩:=x;exact⟨z,dJ,r,ob,k _ _ (.inl rfl) e,c⟩
  |dK aI=>obtain⟨z,y,vs,r,ob,es,ep,e,c⟩:=x;exact⟨z,y,vs,r,ob,es,ep,k _ _ (.inl rfl) e,c⟩
  |dT aI=>
    obtain⟨z,y,xs,r,ob,es,ep,e,c⟩:=x;exact⟨z,y,xs,Paired.yE r fun p q z=>⟨z.1,ht _ _ z.2.1,z.2.2⟩,ob,es,ep,k _ _ (.inl rfl) e,c⟩
  |set S n=>obtain⟨ob,es,ep,t,e,c⟩:=x;exact⟨ob,es,ep,t,k _ _ (.inl rfl) e,c⟩
  |ins C dx fs=>
    obtain⟨d,z,ne,e,mA,⟨od,es,ep,e2,c⟩,r⟩:=x;exact⟨ho _ d,z,ne,k _ _ (.inl rfl) e,mA,⟨od,es,ep,k _ _ (.inr d) e2,c⟩,r⟩
  |own y=>obtain⟨ob,e⟩:=x;exact⟨ob,k _ _ (.inl rfl) e⟩
  |xd fs=>obtain⟨mA,⟨od,es,ep,e,c⟩,r⟩:=x;exact⟨mA,⟨od,es,ep,k _ _ (.inl rfl) e,c⟩,r⟩
  |rng lo hi=>obtain⟨t,u,v,e⟩:=x;exact⟨t,u,v,k _ _ (.inl rfl) e⟩
  |frz ob u ih=>obtain⟨e,q⟩:=x;exact⟨k _ _ (.inl rfl) e,ih q⟩
  |tbl ps=>
    have e:h.get? a=some {cls:=.none,data:=.fields ps}:=x;show h'.get? a=some {cls:=.none,data:=.fields ps};exact k a _ (.inl rfl) e
  |met f y=>
    have e:h.get? a=some (oU (.ref f) (.ref y)):=x;show h'.get? a=some (oU (.ref f) (.ref y));exact k a _ (.inl rfl) e
  |ext φ=>obtain⟨p,⟨o,e⟩,st⟩:=x;exact⟨st _ _ p fun o q=>k _ _ (.inl rfl) q,⟨o,k _ _ (.inl rfl) e⟩,st⟩
theorem iY.lt(x:iY P w H h)(e:H a=some o):a<h.objs.size:=(x a o e).lt
theorem iY.fresh(x:iY P w H h)(e:h.objs.size<=a):H a=none:=by
 cases q:H a with
 |none=>rfl
 |some u=>exact absurd (av (x.lt q) e) (dU _)
theorem iY.kept(x:iY P w H h)(k:∀b u,h.get? b=some u->h'.get? b=some u):iY P w H h':=fun a o e=>
 (x a o e).gm (fun b u _ q=>k b u q) (fun _ q=>q) fun _ _ q=>q
theorem iY.laid(x:iY P w H h)(k:∀b u,h.get? b=some u->h'.get? b=some u)(hp:h.objs.size<=a)(new:eT P w (aB H a o) h' a o):iY P w (aB H a o) h':=fun b u e=>by
 have hn:=x.fresh hp;by_cases hb:b=a
 ·subst hb;rw[bh]at e;cases e;exact new
 ·rw[bw hb]at e;exact(x b u e).gm (fun c v _ q=>k c v q) (fun c q=>by rw[bw (gq q hn)];exact q) fun c xs q=>by rw[bw (gq q hn)];exact q
end
def Rd(H:Hp)(a:Addr)(u:HO):Prop:=H a=some u\/∃o,H a=some (.frz o u)
theorem Rd.ok{P:Program}{w:World}{H:Hp}{h:Heap}{a:Addr}{u:HO}(r:Rd H a u)(x:iY P w H h):eT P w H h a u:=by
 rcases r with r|⟨o,r⟩
 ·exact x a u r
 ·obtain⟨_,q⟩:=x a _ r;exact q
def IP:Option HO->Prop
 |some (.lst _)=>True
 |some (.dK _)=>True
 |some (.dT _)=>True
 |some (.set _ _)=>True
 |some (.ins _ _ _)=>True
 |some (.ext _)=>True
 |_=>False
section
variable{P:Program}{w:World}{H:Hp}{h h':Heap}{x e:Addr}{o':HO}
theorem iY.write(ok:iY P w H h)(mu:IP (H x))(he:e=x\/H e=some (.own x))(k:∀b u,b≠e->h.get? b=some u->h'.get? b=some u)(Fb:∃u,h'.get? e=some u)(new:eT P w (aB H x o') h' x o'):iY P w (aB H x o') h':=fun b u q=>by
  have JQ:∀c y,H c=some (.own y)->c≠x:=fun c y r z=>by subst z;rw[r]at mu;exact mu
  have NQ:∀c xs,H c=some (.tup xs)->c≠x:=fun c xs r z=>by subst z;rw[r]at mu;exact mu
  by_cases hb:b=x
  · subst hb;rw[bh]at q;cases q;exact new
  · rw[bw hb]at q;by_cases Eg:b=e
    · have q':H b=some (.own x):=by
        rcases he with z|z
        · exact absurd (Eg.trans z) hb
        · rw[Eg];exact z
      rw[q]at q';cases q'
      obtain⟨v,hv⟩:=Fb;exact⟨v,by rw[Eg];exact hv⟩
    · refine(ok b u q).gm (fun c v hc r=>k c v ?_ r) (fun c r=>by rw[bw (JQ c b r)];exact r) fun c xs r=>by rw[bw (NQ c xs r)];exact r
      rcases hc with rfl|hc
      · exact Eg
      · rintro rfl;rcases he with z|z
        · exact JQ c b hc z
        · rw[hc]at z;cases z;exact hb rfl
end
structure Un(fs ex:List Addr)(H H':Hp)(h h':Heap):Prop where
 keep:∀b o,h.get? b=some o->H b=none->b∉fs->b∉ex->h'.get? b=some o
 slot:∀b o,h.get? b=some o->H b=none->b∈fs->b∉ex->∃sl,h'.get? b=some {o with slots:=sl}
 free:∀b o,h.get? b=some o->H b=none->b∉ex->H' b=none
 there:∀b o,h.get? b=some o->b∉ex->∃o',h'.get? b=some o'
 oz:∀b xs,H b=some (.tup xs)->H' b=some (.tup xs)
 lT:∀b o u,H b=some (.frz o u)->H' b=some (.frz o u)
 ou:∀b ps,H b=some (.tbl ps)->∃kB,H' b=some (.tbl (ps++kB))
section
variable{fs yo ex ex':List Addr}{H H1 H2:Hp}{h h1 h2 h':Heap}{a x e:Addr}{o:HO}
theorem Un.any(u:Un fs ex H H1 h h1){b:Addr}{ob:Obj}(q:h.get? b=some ob)(n:H b=none)(hx:b∉ex):∃sl,h1.get? b=some {ob with slots:=sl}:=by
 by_cases hb:b∈fs
 ·exact u.slot b ob q n hb hx
 ·exact⟨ob.slots,u.keep b ob q n hb hx⟩
theorem Un.kept(k:∀b u,h.get? b=some u->h'.get? b=some u):Un fs ex H H h h':=
 ⟨fun b ob q _ _ _=>k b ob q,fun b ob q _ _ _=>⟨ob.slots,k b ob q⟩,fun _ _ _ n _=>n,fun b ob q _=>⟨ob,k b ob q⟩,fun _ _ q=>q,fun _ _ _ q=>q,fun _ ps q=>⟨#[],by rw[q];simp⟩⟩
theorem Un.refl:Un fs ex H H h h:=Un.kept fun _ _ q=>q
theorem Un.laid(k:∀b u,h.get? b=some u->h'.get? b=some u)(hp:h.objs.size<=a)(hn:H a=none):Un fs ex H (aB H a o) h h' where
 keep:=fun b u q _ _ _=>k b u q
 slot:=fun b u q _ _ _=>⟨u.slots,k b u q⟩
 free:=fun b u q n _=>by rw[bw (aJ (av (Heap.lt_size q) hp))];exact n
 there:=fun b u q _=>⟨u,k b u q⟩
 oz:=fun b xs q=>by rw[bw (gq q hn)];exact q
 lT:=fun b u xs q=>by rw[bw (gq q hn)];exact q
 ou:=fun b ps q=>⟨#[],by rw[bw (gq q hn),q];simp⟩
theorem Un.write(mu:IP (H x))(he:e=x\/H e=some (.own x))(k:∀b u,b≠e->h.get? b=some u->h'.get? b=some u)(Fb:∃u,h'.get? e=some u):Un fs ex H (aB H x o) h h':=by
 have hx:∀b,H b=none->b≠x:=fun b n z=>by subst z;rw[n]at mu;exact mu
 have hb:∀b,H b=none->b≠e:=fun b n z=>by
  subst z;rcases he with r|r
  ·exact hx b n r
  ·rw[n]at r;cases r
 have hm:∀b u,H b=some u->¬IP (some u)->b≠x:=fun b u q nm z=>by subst z;rw[q]at mu;exact nm mu
 refine⟨fun b u q n _ _=>k b u (hb b n) q,fun b u q n _ _=>⟨u.slots,k b u (hb b n) q⟩,fun b u q n _=>by rw[bw (hx b n)];exact n,fun b u q _=>?_,
  fun b xs q=>by rw[bw (hm b _ q fun z=>z)];exact q,fun b u xs q=>by rw[bw (hm b _ q fun z=>z)];exact q,fun b ps q=>⟨#[],by rw[bw (hm b _ q fun z=>z),q];simp⟩⟩;by_cases Eg:b=e
 ·subst Eg;exact Fb
 ·exact⟨u,k b u Eg q⟩
end
def LX(h:Heap)(H:Hp):List Addr:=(jC h.objs.size).filter fun a=>(H a).isSome
def vo(h:Heap)(H:Hp):Heap:=Dq h (LX h H)
theorem YF(h:Heap)(H:Hp):(vo h H).objs.size=h.objs.size:=PySem.W.hideAll_size _ _
theorem Zc{h:Heap}{H:Hp}{b:Addr}{o:Obj}(e:h.get? b=some o)(n:H b=none):(vo h H).get? b=some o:=
 zh _ e fun hm=>by have q:(H b).isSome=true:=(lM.mp hm).2;rw[n]at q;simp at q
theorem ZZ{h:Heap}{H:Hp}{b:Addr}{o:Obj}(e:(vo h H).get? b=some o):h.get? b=some o/\H b=none:=by
 have e':h.get? b=some o:=Aq (LX h H) e;refine⟨e',?_⟩;cases q:H b with
 |none=>rfl
 |some x=>
  have hm:b∈LX h H:=lM.mpr ⟨vZ.mpr (Heap.lt_size e'),by simp[q]⟩;have z:(vo h H).get? b=none:=yb (LX h H) hm;rw[z]at e;cases e
def Z0(g h:Heap)(L:Addr):List (Addr×Obj):=(jC h.objs.size).filterMap fun a=>if a=L\/(g.get? a).isSome=true then none else(h.get? a).map fun o=>(a,o)
def uc(g h:Heap)(L d:Addr):List (Addr×Obj):=(Z0 g h L).filter fun p=>decide (p.1≠d)
structure Mod(K:aa)(mg:Str->Option Value)(base:Heap):Prop where
 Bu:K.In base
 glob:base.Ns mainGlobals mg
 blt:∃mb,base.Ns builtinsNs mb/\∀x:Str,x≠ "__name__"->mb x=bootBuiltins x
 nolimit:base.NoLimit
structure Cx where
 prog:Program
 w:World
 K:aa
 mg:Str->Option Value
 base:Heap
 A:Around
 N:List Str
 s₀:Shared
 H₀:Hp
 env:Env
 outer:List Env
 stack:List Env
 ex:List Addr
 fn:Str->Bool
 calm:Bool
 pn:List (Addr×Obj)
 xe:Value->Shared->Prop
def qW(l:List Env):List Addr:=l.filterMap (·.frame)
abbrev Cx.fs(X:Cx):List Addr:=qW X.outer
def ML(sc:Scope)(x:Str):Prop:=sc.names.lookup x=some .local\/sc.names.lookup x=some .cell\/sc.names.lookup x=some .free
def Loc(sc:Scope)(x:Str):Prop:=sc.names.lookup x=some .local\/sc.names.lookup x=some .cell
def Look(env:Env)(h:Heap)(m:Str->Option Value)(x:Str)(u:Value):Prop:=
 (env.kindOf x=some .local/\m x=some u)\/((env.kindOf x=some .cell\/env.kindOf x=some .free)/\∃c,env.cells.lookup x=some c/\h.IsCell c (some u))
structure Cx.Ok(X:Cx):Prop where
 mod:Mod X.K X.mg X.base
 kind:X.env.scope.kind= .function
 glob:X.env.globals=mainGlobals
 blt:X.env.builtins=builtinsNs
 above:X.s₀.heap.objs.size<=X.env.locals
 inj:∀x y c,X.env.cells.lookup x=some c->X.env.cells.lookup y=some c->x=y
 has:∀x,(X.env.kindOf x=some .cell\/X.env.kindOf x=some .free)->∃c,X.env.cells.lookup x=some c
 D7:∀x c,X.fn x=true->X.env.cells.lookup x=some c->X.s₀.heap.objs.size<=c
 hd:X.calm=true->X.A.handled=none
 frames:X.A.frames=some X.stack
 FM:X.stack=X.outer\/(X.stack=X.env::X.outer/\X.env.frame=some X.env.locals)
 E6:∀b∈X.ex,b≠X.env.locals/\∀x c,X.env.cells.lookup x=some c->c≠b
 bs:∀b o,X.base.get? b=some o->X.s₀.heap.get? b=some o/\X.H₀ b=none
 zo:X.base.objs.size<=X.s₀.heap.objs.size
 vD:∀b o,X.base.get? b=some o->b∉X.ex
 vj:∀b∈X.ex,b∉X.fs
 jq:X.s₀.heap.FunFrames X.base X.outer
 Bo:∀b∈X.fs,X.H₀ b=none
structure Inv(X:Cx)(ae:List (Addr×Obj))(σ:List (Option V))(H:Hp)(s:Shared):Prop where
 ok:X.Ok
 os:s.os=X.s₀.os
 bare:AllBare s.gens
 base:Un X.fs X.ex X.H₀ H X.s₀.heap s.heap
 loc:∃m,s.heap.Ns X.env.locals m/\∀(i:Nat)(x:Str)(v:V),X.N[i]?=some x->σ[i]?=some (some v)->ML X.env.scope x->∃u,RelV v u/\Look X.env s.heap m x u
 cell:∀x c,X.env.cells.lookup x=some c->∃v,s.heap.IsCell c v
 free:H X.env.locals=none
 ia:∀x c,X.env.cells.lookup x=some c->H c=none
 pin:∀p∈X.pn++ae,s.heap.get? p.1=some p.2/\H p.1=none/\p.1≠X.env.locals/\p.1∉X.fs/\∀v,p.2.data≠.cell v
 cu:iY X.prog X.w H s.heap
 len:σ.length=X.N.length
section
variable{X:Cx}{ae:List (Addr×Obj)}{σ:List (Option V)}{H H':Hp}{s:Shared}{h':Heap}
theorem Cx.Ok.NK(ok:X.Ok){b:Addr}{o:Obj}(e:X.base.get? b=some o):b∉X.fs:=fun hb=>by have:=(ok.jq.mem hb).1;rw[e]at this;cases this
theorem Inv.bs(I:Inv X ae σ H s):∀b o,X.base.get? b=some o->s.heap.get? b=some o/\H b=none:=fun b o e=>
 ⟨I.base.keep b o (I.ok.bs b o e).1 (I.ok.bs b o e).2 (I.ok.NK e) (I.ok.vD b o e),I.base.free b o (I.ok.bs b o e).1 (I.ok.bs b o e).2 (I.ok.vD b o e)⟩
theorem Inv.bk(I:Inv X ae σ H s):∀b o,X.base.get? b=some o->s.heap.get? b=some o:=fun b o e=>(I.bs b o e).1
theorem Inv.mod(I:Inv X ae σ H s):Mod X.K X.mg X.base:=I.ok.mod
theorem Inv.l7(I:Inv X ae σ H s):X.K.In s.heap:=I.ok.mod.Bu.keeps I.bk
theorem Inv.lt(I:Inv X ae σ H s):X.env.locals<s.heap.objs.size:=let⟨_,hn,_⟩:=I.loc;hn.lt
theorem Inv.sz(I:Inv X ae σ H s):X.s₀.heap.objs.size<=s.heap.objs.size:=bf I.ok.above (rH I.lt)
theorem Inv.NL(I:Inv X ae σ H s){a:Addr}(h:s.heap.objs.size<=a):a∉X.fs:=fun hb=>by obtain⟨_,o,ho,_⟩:=I.ok.jq.mem hb;exact absurd (av (Heap.lt_size ho) (bf I.sz h)) (dU _)
theorem Inv.BX(I:Inv X ae σ H s):∀x c,X.env.cells.lookup x=some c->c≠X.env.locals:=fun x c e z=>by obtain⟨v,o,ho,hd⟩:=I.cell x c e;obtain⟨m,⟨o',es,ep,AB,M6,_⟩,_⟩:=I.loc;rw[z,AB]at ho;cases ho;rw[M6]at hd;cases hd
theorem Inv.jq(I:Inv X ae σ H s):s.heap.FunFrames X.base X.outer:=by
 have all:∀(l:List Env),(∀b∈qW l,b∈X.fs)->X.s₀.heap.FunFrames X.base l->s.heap.FunFrames X.base l:=by
  intro l
  induction l with
  |nil=>intro _ _;trivial
  |cons env r ih=>
   intro hs hl;obtain⟨hk,⟨L,o,hf,hn,ho,hd⟩,hr⟩:=hl;have hL:L∈X.fs:=hs L (by unfold qW;rw[oE,hf];exact aq);obtain⟨sl,e⟩:=I.base.slot L o ho (I.ok.Bo L hL) hL fun z=>I.ok.vj L z hL;exact⟨hk,⟨L,_,hf,hn,e,hd⟩,ih (fun b hb=>hs b (by unfold qW;rw[oE,hf];exact af _ hb)) hr⟩
 exact all X.outer (fun _ hb=>hb) I.ok.jq
theorem Inv.stack(I:Inv X ae σ H s):s.heap.FunFrames X.base X.stack:=by
 rcases I.ok.FM with e|⟨e,hf⟩
 ·rw[e];exact I.jq
 ·rw[e];obtain⟨m,hn,_⟩:=I.loc;refine .cons (by rw[I.ok.kind];decide) hf hn ?_ I.jq;exact Heap.get?_none_of_le (bf I.ok.zo I.ok.above)
theorem Inv.pB(I:Inv X ae σ H s):∀b∈qW X.stack,b∈X.env.locals::X.fs:=fun b hb=>by
 rcases I.ok.FM with e|⟨e,hf⟩
 ·rw[e]at hb;exact af _ hb
 ·rw[e]at hb;unfold qW at hb;rw[oE,hf]at hb;exact hb
theorem Inv.vM(I:Inv X ae σ H s):∀b∈qW X.stack,H b=none:=fun b hb=>by
 rcases ah.mp (I.pB b hb)with e|hb
 ·rw[e];exact I.free
 ·obtain⟨_,o,ho,_⟩:=I.ok.jq.mem hb;exact I.base.free b o ho (I.ok.Bo b hb) fun z=>I.ok.vj b z hb
theorem Inv.step{g':Array GenState}{t':Nat}{d':Drawn}{ch:List Addr}(I:Inv X ae σ H s)(yr:∀b∈ch,(b∈X.ex\/X.s₀.heap.objs.size<=b)/\b≠X.env.locals/\(∀x c,X.env.cells.lookup x=some c->c≠b)/\∀p∈X.pn++ae,p.1≠b)(keep:∀b o,b≠X.env.locals->b∉X.fs->b∉ch->s.heap.get? b=some o->H b=none->h'.get? b=some o)(slot:∀b o,b≠X.env.locals->b∈X.fs->b∉ch->s.heap.get? b=some o->H b=none->∃sl,h'.get? b=some {o with slots:=sl})(free:∀b o,b∉ch->s.heap.get? b=some o->H b=none->H' b=none)(there:∀b o,b∉ch->s.heap.get? b=some o->∃o',h'.get? b=some o')(oz:∀b xs,H b=some (.tup xs)->H' b=some (.tup xs))(lT:∀b o u,H b=some (.frz o u)->H' b=some (.frz o u))(ou:∀b ps,H b=some (.tbl ps)->∃kB,H' b=some (.tbl (ps++kB)))(ns:∀m,s.heap.Ns X.env.locals m->h'.Ns X.env.locals m)(cu:iY X.prog X.w H' h')(hg:AllBare g'):
    Inv X ae σ H' {s with heap:=h',gens:=g',drawn:=d',toks:=t'}:=by
  have Qw:∀b o,X.s₀.heap.get? b=some o->b≠X.env.locals:=fun b o e=>aJ (av (Heap.lt_size e) I.ok.above);have Fk:∀b o,X.s₀.heap.get? b=some o->b∉X.ex->b∉ch:=fun b o e hx hb=>by
    rcases(yr b hb).1 with z|z
    · exact hx z
    · exact absurd (av (Heap.lt_size e) z) (dU _)
  have wF:∀x c,X.env.cells.lookup x=some c->∀v,s.heap.IsCell c v->h'.IsCell c v:=fun x c e v⟨o,ho,hd⟩=>by
    have JM:c∉ch:=fun z=>(yr c z).2.2.1 x c e rfl;by_cases hc:c∈X.fs
    · obtain⟨sl,q⟩:=slot c o (I.BX x c e) hc JM ho (I.ia x c e);exact⟨_,q,hd⟩
    · exact⟨o,keep c o (I.BX x c e) hc JM ho (I.ia x c e),hd⟩
  refine⟨I.ok,I.os,hg,⟨fun b o e n hb hx=>?_,fun b o e n hb hx=>?_,fun b o e n hx=>?_,fun b o e hx=>?_,fun b xs e=>oz b xs (I.base.oz b xs e),fun b o xs e=>lT b o xs (I.base.lT b o xs e),fun b ps e=>?_⟩,?_,fun x c e=>?_,?_,fun x c e=>?_,fun p hp=>?_,cu,I.len⟩
  · exact keep b o (Qw b o e) hb (Fk b o e hx) (I.base.keep b o e n hb hx) (I.base.free b o e n hx)
  · obtain⟨sl,e1⟩:=I.base.slot b o e n hb hx;obtain⟨Wg,e2⟩:=slot b _ (Qw b o e) hb (Fk b o e hx) e1 (I.base.free b o e n hx);exact⟨Wg,e2⟩
  · obtain⟨o',e1⟩:=I.base.there b o e hx;exact free b o' (Fk b o e hx) e1 (I.base.free b o e n hx)
  · obtain⟨o',e1⟩:=I.base.there b o e hx;exact there b o' (Fk b o e hx) e1
  · obtain⟨m1,e1⟩:=I.base.ou b ps e;obtain⟨m2,e2⟩:=ou b _ e1;exact⟨m1++m2,by rw[e2,BC]⟩
  · obtain⟨m,hn,hl⟩:=I.loc;refine⟨m,ns m hn,fun i x v e1 e2 e3=>?_⟩;obtain⟨u,r,l⟩:=hl i x v e1 e2 e3;refine⟨u,r,?_⟩;rcases l with l|⟨k,c,e,z⟩
    · exact .inl l
    · exact .inr ⟨k,c,e,wF x c e _ z⟩
  · obtain⟨v,z⟩:=I.cell x c e;exact⟨v,wF x c e v z⟩
  · obtain⟨m,⟨o,_,_,ho,_⟩,_⟩:=I.loc;exact free _ o (fun z=>(yr _ z).2.1 rfl) ho I.free
  · obtain⟨v,o,ho,hd⟩:=I.cell x c e;exact free c o (fun z=>(yr c z).2.2.1 x c e rfl) ho (I.ia x c e)
  · obtain⟨e,n,ne,nf,d⟩:=I.pin p hp;have JM:p.1∉ch:=fun z=>(yr p.1 z).2.2.2 p hp rfl;exact⟨keep p.1 p.2 ne nf JM e n,free p.1 p.2 JM e n,ne,nf,d⟩
theorem Inv.un{t':Nat}(I:Inv X ae σ H s)(u:Un X.fs [] H H' s.heap h')(cu:iY X.prog X.w H' h'):Inv X ae σ H' {s with heap:=h',toks:=t'}:=by
 obtain⟨m,⟨o,es,ep,ho,r⟩,_⟩:=id I.loc;obtain⟨sl,hL⟩:=u.any ho I.free (by simp);exact I.step (g':=s.gens) (d':=s.drawn) (ch:=[]) (fun _ z=>nomatch z) (fun b o _ hb _ e n=>u.keep b o e n hb (by simp)) (fun b o _ hb _ e n=>u.slot b o e n hb (by simp)) (fun b o _ e n=>u.free b o e n (by simp)) (fun b o _ e=>u.there b o e (by simp)) u.oz u.lT u.ou (fun m' hm=>by
  obtain⟨o',MU,MT,AB,r'⟩:=hm;rw[ho]at AB;cases AB
  exact⟨_,MU,MT,hL,r'⟩) cu I.bare
theorem Inv.call{g':Array GenState}{t':Nat}{d':Drawn}{ch:List Addr}(I:Inv X ae σ H s)(u:Un (qW X.stack) ch H H' s.heap h')(cu:iY X.prog X.w H' h')(hg:AllBare g')(yr:∀b∈ch,(b∈X.ex\/X.s₀.heap.objs.size<=b)/\b≠X.env.locals/\(∀x c,X.env.cells.lookup x=some c->c≠b)/\∀p∈X.pn++ae,p.1≠b):
    Inv X ae σ H' {s with heap:=h',gens:=g',drawn:=d',toks:=t'}:=by
  obtain⟨m,⟨o,es,ep,ho,r⟩,_⟩:=id I.loc;obtain⟨sl,hL⟩:=u.any ho I.free fun z=>(yr _ z).2.1 rfl;exact I.step (ch:=ch) yr (fun b o hL hb hc e n=>u.keep b o e n (fun z=>(ah.mp (I.pB b z)).elim hL hb) hc) (fun b o _ _ hc e n=>u.any e n hc) (fun b o hc e n=>u.free b o e n hc) (fun b o hc e=>u.there b o e hc) u.oz u.lT u.ou (fun m' hm=>by
    obtain⟨o',MU,MT,AB,r'⟩:=hm;rw[ho]at AB;cases AB
    exact⟨_,MU,MT,hL,r'⟩) cu hg
theorem Inv.turned{t':Nat}{it:Addr}(I:Inv X ae σ H s)(k:∀b o,b≠it->s.heap.get? b=some o->h'.get? b=some o)(hn:H it=none)(hL:it≠X.env.locals)(h1:it∈X.ex\/X.s₀.heap.objs.size<=it)(h2:∀x c,X.env.cells.lookup x=some c->c≠it)(h3:∀p∈X.pn++ae,p.1≠it):Inv X ae σ H {s with heap:=h',toks:=t'}:=by
  have Fl:∀b u,H b=some u->b≠it:=fun b u e z=>by rw[z,hn]at e;cases e
  refine I.step (g':=s.gens) (d':=s.drawn) (ch:=[it]) (fun b hb=>?_) (fun b o _ _ hc e _=>k b o (fun z=>hc (by simp[z])) e) (fun b o _ _ hc e _=>⟨o.slots,k b o (fun z=>hc (by simp[z])) e⟩) (fun _ _ _ _ n=>n)
    (fun b o hc e=>⟨o,k b o (fun z=>hc (by simp[z])) e⟩) (fun _ _ e=>e) (fun _ _ _ e=>e) (fun b ps e=>⟨#[],by rw[e];simp⟩) (fun m hm=>?_) (fun b u e=>?_) I.bare
  · have e:b=it:=by simpa using hb
    subst e;exact⟨h1,hL,h2,h3⟩
  · obtain⟨o,es,ep,ho,r⟩:=hm;exact⟨o,es,ep,k _ o (bV hL) ho,r⟩
  · refine(I.cu b u e).gm (fun c v hc q=>k c v ?_ q) (fun _ q=>q) fun _ _ q=>q;rcases hc with z|z
    · rw[z];exact Fl b u e
    · exact Fl c _ z
theorem Inv.tok(I:Inv X ae σ H s)(t:Nat):Inv X ae σ H {s with toks:=t}:=I.un (h':=s.heap) (t':=t) Un.refl I.cu
theorem Inv.kept{t':Nat}(I:Inv X ae σ H s)(k:∀b u,s.heap.get? b=some u->h'.get? b=some u):Inv X ae σ H {s with heap:=h',toks:=t'}:=I.un (Un.kept k) (I.cu.kept k)
theorem Inv.laid{a:Addr}{o:HO}{t':Nat}(I:Inv X ae σ H s)(k:∀b u,s.heap.get? b=some u->h'.get? b=some u)(hp:s.heap.objs.size<=a)(new:eT X.prog X.w (aB H a o) h' a o):
    Inv X ae σ (aB H a o) {s with heap:=h',toks:=t'}:=I.un (Un.laid k hp (I.cu.fresh hp)) (I.cu.laid k hp new)
theorem Inv.write{x e:Addr}{o:HO}{t':Nat}(I:Inv X ae σ H s)(mu:IP (H x))(he:e=x\/H e=some (.own x))(k:∀b u,b≠e->s.heap.get? b=some u->h'.get? b=some u)(Fb:∃u,h'.get? e=some u)(new:eT X.prog X.w (aB H x o) h' x o):Inv X ae σ (aB H x o) {s with heap:=h',toks:=t'}:=I.un (Un.write mu he k Fb) (I.cu.write mu he k Fb new)
theorem Inv.zJ{zI:List (Addr×Obj)}(I:Inv X ae σ H s)(h:∀p∈zI,s.heap.get? p.1=some p.2/\H p.1=none/\p.1≠X.env.locals/\p.1∉X.fs/\∀v,p.2.data≠.cell v):Inv X zI σ H s:=
 ⟨I.ok,I.os,I.bare,I.base,I.loc,I.cell,I.free,I.ia,fun p hp=>(aA.mp hp).elim (fun z=>I.pin p (fK _ z)) (h p),I.cu,I.len⟩
theorem OI{N:List Str}(hN:N.Nodup){i j:Nat}{x:Str}(a:N[i]?=some x)(b:N[j]?=some x):i=j:=by obtain⟨h1,e1⟩:=aE.mp a;obtain⟨h2,e2⟩:=aE.mp b;exact(EX hN).mp (e1.trans e2.symm)
theorem YG {M:Model} {A:Around} {E:Value->Shared->Prop} {i:Nat} {x:Str} {v:V} {u:Value} {Q:Unit->Shared->Prop} (I:Inv X ae σ H s) (hN:X.N.Nodup) (hi:X.N[i]? = some x) (hx:Loc X.env.scope x) (r:RelV v u)
    (h:∀ s',Inv X ae (σ.set i (some v)) H s'->(∃ a,Heap.SameBut a s.heap s'.heap/\(a=X.env.locals\/X.env.cells.lookup x=some a))->Q () s') (hf:X.fn x=true\/X.env.scope.names.lookup x=some .local:=by first | exact .inl rfl | exact .inr rfl | assumption):wpAny M A (storeName X.env x u) Q E s:=by
  obtain ⟨m,hn,hl⟩:=id I.loc
  have Gy:(X.env.scope.kind == .class || (X.env.scope.kind == .module && X.env.locals != X.env.globals))=false:=by rw [I.ok.kind]; rfl
  have P5:i < σ.length:=by rw [I.len]; exact (aE.mp hi).1
  have BX:=I.BX
  have z7:∀ {a:Addr} {h':Heap},(∃ o,s.heap.get? a=some o/\H a=none)->Heap.SameBut a s.heap h'->iY X.prog X.w H h':=fun {a h'} ha hs b ob e=>by
    obtain ⟨_,_,Fc⟩:=ha
    refine (I.cu b ob e).gm (fun c w' hc q=>(hs.2 c ?_).trans q) (fun _ q=>q) fun _ _ q=>q
    rintro rfl
    rcases hc with rfl | hc
    · rw [Fc] at e; cases e
    · rw [Fc] at hc; cases hc
  rcases hx with hk | hk
  · refine wpAny_storeName_local hk hn (fun h' Bp hs=>?_) Gy
    obtain ⟨oL,_,_,VG,_⟩:=id hn
    refine h _ ⟨I.ok,I.os,I.bare,⟨fun b o e n hb hx=>?_,fun b o e n hb hx=>?_,I.base.free,fun b o e hx=>?_,I.base.oz,I.base.lT,I.base.ou⟩,⟨_,Bp,fun j y v' e1 e2 e3=>?_⟩,fun y c e=>?_,I.free,I.ia,fun p hp=>?_,z7 ⟨oL,VG,I.free⟩ hs,by simpa using I.len⟩ ⟨_,hs,.inl rfl⟩
    · exact (hs.2 b (aJ (av (Heap.lt_size e) I.ok.above))).trans (I.base.keep b o e n hb hx)
    · obtain ⟨sl,e1⟩:=I.base.slot b o e n hb hx
      exact ⟨sl,(hs.2 b (aJ (av (Heap.lt_size e) I.ok.above))).trans e1⟩
    · obtain ⟨o',e1⟩:=I.base.there b o e hx
      exact ⟨o',(hs.2 b (aJ (av (Heap.lt_size e) I.ok.above))).trans e1⟩
    · by_cases hj:j=i
      · subst hj
        rw [hi] at e1; cases e1
        rw [g6 P5] at e2
        cases e2
        exact ⟨u,r,.inl ⟨hk,by simp⟩⟩
      · rw [m5 (bV hj)] at e2
        obtain ⟨u',r',q⟩:=hl j y v' e1 e2 e3
        refine ⟨u',r',?_⟩
        rcases q with ⟨k,e⟩ | ⟨k,c,e,z⟩
        · refine .inl ⟨k,?_⟩
          have:y≠x:=fun e=>hj (OI hN e1 (e ▸ hi))
          simp [this,e]
        · exact .inr ⟨k,c,e,z.sameBut hs (BX y c e)⟩
    · obtain ⟨w',z⟩:=I.cell y c e
      exact ⟨w',z.sameBut hs (BX y c e)⟩
    · obtain ⟨e,n,ne,nf,d⟩:=I.pin p hp
      exact ⟨(hs.2 p.1 ne).trans e,n,ne,nf,d⟩
  · have M9:X.fn x=true:=by
      rcases hf with z | z
      · exact z
      · rw [z] at hk; cases hk
    obtain ⟨c,hc⟩:=I.ok.has x (.inl hk)
    obtain ⟨w',z⟩:=I.cell x c hc
    refine wpAny_storeName_cell I.ok.kind hk hc z (fun h' PP hs=>?_)
    obtain ⟨oc,P9,Nh⟩:=id z
    refine h { s with heap:=h' } ⟨I.ok,I.os,I.bare,⟨fun b o e n hb hx=>?_,fun b o e n hb hx=>?_,I.base.free,fun b o e hx=>?_,I.base.oz,I.base.lT,I.base.ou⟩,⟨m,hn.sameBut hs (bV (BX x c hc)),fun j y v' e1 e2 e3=>?_⟩,fun y c' e=>?_,I.free,I.ia,fun p hp=>?_,z7 ⟨oc,P9,I.ia x c hc⟩ hs,by simpa using I.len⟩ ⟨c,hs,.inr hc⟩
    · exact (hs.2 b (aJ (av (Heap.lt_size e) (I.ok.D7 x c M9 hc)))).trans (I.base.keep b o e n hb hx)
    · obtain ⟨sl,e1⟩:=I.base.slot b o e n hb hx
      exact ⟨sl,(hs.2 b (aJ (av (Heap.lt_size e) (I.ok.D7 x c M9 hc)))).trans e1⟩
    · obtain ⟨o',e1⟩:=I.base.there b o e hx
      exact ⟨o',(hs.2 b (aJ (av (Heap.lt_size e) (I.ok.D7 x c M9 hc)))).trans e1⟩
    · by_cases hj:j=i
      · subst hj
        rw [hi] at e1; cases e1
        rw [g6 P5] at e2
        cases e2
        exact ⟨u,r,.inr ⟨.inl hk,c,hc,PP⟩⟩
      · rw [m5 (bV hj)] at e2
        obtain ⟨u',r',q⟩:=hl j y v' e1 e2 e3
        refine ⟨u',r',?_⟩
        rcases q with q | ⟨k,c',e,z'⟩
        · exact .inl q
        · refine .inr ⟨k,c',e,z'.sameBut hs ?_⟩
          rintro rfl
          exact hj (OI hN e1 (I.ok.inj _ _ _ e hc ▸ hi))
    · by_cases PR:c'=c
      · subst PR; exact ⟨_,PP⟩
      · obtain ⟨w2,z2⟩:=I.cell y c' e
        exact ⟨w2,z2.sameBut hs PR⟩
    · obtain ⟨e,n,ne,nf,d⟩:=I.pin p hp
      refine ⟨(hs.2 p.1 ?_).trans e,n,ne,nf,d⟩
      intro q
      rw [q,P9] at e
      have q':oc=p.2:=aK e
      exact d w' (by rw [<- q']; exact Nh)
theorem L7{M:Model}{A:Around}{E:Value->Shared->Prop}{i:Nat}{x:Str}{v:V}{u:Value}{Q:Unit->Shared->Prop}(I:Inv X ae σ H s)(hN:X.N.Nodup)(hi:X.N[i]?=some x)(hx:Loc X.env.scope x)(r:RelV v u)(h:∀s',Inv X ae (σ.set i (some v)) H s'->Q () s')(hf:X.fn x=true\/X.env.scope.names.lookup x=some .local:=by first|exact .inl rfl|exact .inr rfl|assumption):wpAny M A (storeName X.env x u) Q E s:=
  YG I hN hi hx r (fun s' I' _=>h s' I') hf
theorem Inv.E2{s':Shared}{ch:List Addr}(I:Inv X ae σ H s)(ho:s'.os=s.os)(u:Un (qW X.stack) ch H H' s.heap s'.heap)(cu:iY X.prog X.w H' s'.heap)(hg:AllBare s'.gens)(yr:∀b∈ch,(b∈X.ex\/X.s₀.heap.objs.size<=b)/\b≠X.env.locals/\(∀x c,X.env.cells.lookup x=some c->c≠b)/\∀p∈X.pn++ae,p.1≠b):Inv X ae σ H' s':=by
  obtain⟨h',g',d',t',o'⟩:=s';have e:o'=s.os:=ho;subst e;exact I.call (g':=g') (t':=t') (d':=d') u cu hg yr
end
abbrev XK:=Value->Option Addr->Hp->Prop
abbrev St:=List (Option V)
abbrev VK:=V->Hp->Prop
abbrev TE:=St->Hp->VK->Prop
abbrev TT:=St->Hp->(Bool->Hp->Prop)->Prop
abbrev TA:=St->Hp->(List V->Hp->Prop)->Prop
structure Ends where
 nx:St->Hp->Prop
 rt:VK
 bk:St->Hp->Prop:=fun _ _=>False
 ct:St->Hp->Prop:=fun _ _=>False
abbrev TS:=Ends->St->Hp->Prop
def EP(X:Cx)(ae:List (Addr×Obj))(σ:St)(Q:VK)(u:Value)(s':Shared):Prop:=∃v H',Inv X ae σ H' s'/\RelV v u/\Q v H'
def TP(X:Cx)(ae:List (Addr×Obj))(σ:St)(Q:Bool->Hp->Prop)(b:Bool)(s':Shared):Prop:=∃H',Inv X ae σ H' s'/\Q b H'
def AP(X:Cx)(ae:List (Addr×Obj))(σ:St)(Q:List V->Hp->Prop)(us:List Value)(s':Shared):Prop:=∃vs H',Inv X ae σ H' s'/\bP vs us/\Q vs H'
def SP(X:Cx)(ae:List (Addr×Obj))(D:Ends)(f:Flow)(s':Shared):Prop:=
 match f with
 | .next=>∃σ' H',Inv X ae σ' H' s'/\D.nx σ' H'
 | .brk=>∃σ' H',Inv X ae σ' H' s'/\D.bk σ' H'
 | .cont=>∃σ' H',Inv X ae σ' H' s'/\D.ct σ' H'
 | .ret u=>∃v σ' H',Inv X ae σ' H' s'/\RelV v u/\D.rt v H'
def PE(X:Cx)(e:Expr)(t:TE):Prop:=
 ∀(ae:List (Addr×Obj))(s:Shared)(σ:St)(H:Hp)(Q:VK),Inv X ae σ H s->t σ H Q->wpAny (model X.prog X.w) X.A (eval e X.env) (EP X ae σ Q) X.xe s
def PT(X:Cx)(e:Expr)(t:TT):Prop:=
 ∀(ae:List (Addr×Obj))(s:Shared)(σ:St)(H:Hp)(Q:Bool->Hp->Prop),Inv X ae σ H s->t σ H Q->wpAny (model X.prog X.w) X.A (isTrue e X.env (eval e X.env)) (TP X ae σ Q) X.xe s
def PW(X:Cx)(e:Expr)(t:TT):Prop:=
 ∀(mq:Sem Value)(ae:List (Addr×Obj))(s:Shared)(σ:St)(H:Hp)(Q:Bool->Hp->Prop),Inv X ae σ H s->t σ H Q->wpAny (model X.prog X.w) X.A (isTrue e X.env mq) (TP X ae σ Q) X.xe s
theorem PW.pt{X:Cx}{e:Expr}{t:TT}(h:PW X e t):PT X e t:=h _
def PA(X:Cx)(es:List Expr)(t:TA):Prop:=
 ∀(pos:Pos)(ae:List (Addr×Obj))(s:Shared)(σ:St)(H:Hp)(Q:List V->Hp->Prop),Inv X ae σ H s->t σ H Q->wpAny (model X.prog X.w) X.A (spliced (backTo pos (starEach es X.env))) (AP X ae σ Q) X.xe s
def PS(X:Cx)(st:Stmt)(t:TS):Prop:=
 ∀(ae:List (Addr×Obj))(s:Shared)(σ:St)(H:Hp)(D:Ends),Inv X ae σ H s->t D σ H->wpAny (model X.prog X.w) X.A (exec st X.env) (SP X ae D) X.xe s
def qU(X:Cx)(st:List Stmt)(t:TS):Prop:=
 ∀(ae:List (Addr×Obj))(s:Shared)(σ:St)(H:Hp)(D:Ends),Inv X ae σ H s->t D σ H->wpAny (model X.prog X.w) X.A (execs st X.env) (SP X ae D) X.xe s
theorem d7{α:Type}{t:Sem α}{Q Q':α->Shared->Prop}{M:Model}{A:Around}{E:Value->Shared->Prop}{s:Shared}(h:wpAny M A t Q E s)(hQ:∀a s,Q a s->Q' a s):wpAny M A t Q' E s:=wpAny_mono h hQ fun _ _ x=>x
section
variable{X:Cx}
def qM(i:Nat):TE:=fun σ H Q=>∃v,σ[i]?=some (some v)/\Q v H
def tC(v:V):TE:=fun _ H Q=>Q v H
theorem zxx{i:Nat}{x:Str}{pos:Pos}(hN:X.N[i]?=some x)(hv:ML X.env.scope x)(hd:(x ==("__debug__":Str))=false:=by decide)(lB:(x ==("__classdict__":Str))=false:=by decide):PE X (.Name x pos) (qM i):=by
 intro ae s σ H Q I h;obtain⟨v,e,h⟩:=h;obtain⟨m,hn,hl⟩:=I.loc;obtain⟨u,r,l⟩:=hl i x v hN e hv;have gM:EP X ae σ Q u s:=⟨v,H,I,r,h⟩;rcases l with⟨hk,hm⟩ |⟨hk,c,hc,uC⟩
 ·exact wpAny_Name (wpAny_loadName_local I.ok.kind hk hn hm gM) hd
 ·rcases hk with hk|hk
  ·exact wpAny_Name (wpAny_loadName_cell I.ok.kind hk hc uC gM) hd
  ·exact wpAny_Name (wpAny_loadName_free I.ok.kind hk hc uC gM lB) hd
theorem aW{i j pos}:PE X (.Constant (.int i) j pos) (tC (.int i)):=fun _ _ _ H _ I h=>wpAny_Constant_int ⟨.int i,H,I.tok _,⟨_,rfl⟩,h⟩
theorem JW{b j pos}:PE X (.Constant (.bool b) j pos) (tC (.bl b)):=fun _ _ _ H _ I h=>Constant_bool ⟨.bl b,H,I,rfl,h⟩
theorem xE{j pos}:PE X (.Constant .none j pos) (tC .non):=fun _ _ _ H _ I h=>Constant_none ⟨.non,H,I,rfl,h⟩
theorem gg{x j pos}:PE X (.Constant (.str x) j pos) (tC (.str x)):=fun _ _ _ H _ I h=>Calls.Constant_str ⟨.str x,H,I.tok _,⟨_,rfl⟩,h⟩
def Gl(X:Cx)(x:Str):Prop:=X.env.kindOf x=some .globalImplicit
theorem EO{E:Value->Shared->Prop}{ae:List (Addr×Obj)}{s:Shared}{σ:St}{H:Hp}{x:Str}{u:Value}{pos:Pos}{Q:Value->Shared->Prop}(I:Inv X ae σ H s)(hg:Gl X x)(hm:X.mg x=some u)(h:Q u s)(hd:(x ==("__debug__":Str))=false:=by decide):wpAny (model X.prog X.w) X.A (eval (.Name x pos) X.env) Q E s:=
  Calls.Name_function_global I.ok.kind hg (Calls.loadGlobal_global (by rw[I.ok.glob];exact I.mod.glob.keeps I.bk) hm h) hd
theorem HE{E:Value->Shared->Prop}{ae:List (Addr×Obj)}{s:Shared}{σ:St}{H:Hp}{x:Str}{u:Value}{pos:Pos}{Q:Value->Shared->Prop}(I:Inv X ae σ H s)(hg:Gl X x)(hm:X.mg x=none)(hv:bootBuiltins x=some u)(h:Q u s)(hn:x≠ "__name__":=by decide)(hd:(x ==("__debug__":Str))=false:=by decide):wpAny (model X.prog X.w) X.A (eval (.Name x pos) X.env) Q E s:=by
  obtain⟨mb,h1,h2⟩:=I.mod.blt;exact Calls.Name_function_global I.ok.kind hg (Calls.loadGlobal_builtin (by rw[I.ok.glob];exact I.mod.glob.keeps I.bk) hm (by rw[I.ok.blt];exact h1.keeps I.bk) ((h2 x hn).trans hv) h) hd
theorem uU{x:Str}{v:V}{u:Value}{pos:Pos}(hg:Gl X x)(hm:X.mg x=some u)(r:RelV v u)(hd:(x ==("__debug__":Str))=false:=by decide):PE X (.Name x pos) (tC v):=
 fun _ _ _ H _ I h=>EO I hg hm ⟨v,H,I,r,h⟩ hd
theorem Z1{x:Str}{v:V}{u:Value}{pos:Pos}(hg:Gl X x)(hm:X.mg x=none)(hv:bootBuiltins x=some u)(r:RelV v u)(hn:x≠ "__name__":=by decide)(hd:(x ==("__debug__":Str))=false:=by decide):PE X (.Name x pos) (tC v):=
 fun _ _ _ H _ I h=>HE I hg hm hv ⟨v,H,I,r,h⟩ hn hd
variable{a b:Expr}{ta tb:TE}{pos:Pos}
def PC(X:Cx)(op:CmpOp)(a b:Expr)(t:TE):Prop:=
 ∀(ae:List (Addr×Obj))(s:Shared)(σ:St)(H:Hp)(Q:VK),Inv X ae σ H s->t σ H Q->
  wpAny (model X.prog X.w) X.A (eval a X.env) (fun v s₁=>wpAny (model X.prog X.w) X.A (eval b X.env) (fun u s₂=>wpAny (model X.prog X.w) X.A (compareOp op v u) (EP X ae σ Q) X.xe s₂) X.xe s₁) X.xe s
def tB(t:TE):TT:=fun σ H Q=>t σ H fun x H1=>∃c,x= .bl c/\Q c H1
theorem K9{op:CmpOp}{t:TE}(h:PC X op a b t)(h1:behindInMarks op b=false:=by first|exact JP _ (by decide) (by decide) |rfl):PT X (.Compare a [op] [b] pos) (tB t):=by
 intro ae s σ H Q I hw;refine wpAny_isTrue_Compare1 (d7 (h ae s σ H _ I hw) fun v s1 h1=>d7 h1 fun u s2 h2=>d7 h2 fun c s3⟨x,H1,I1,r1,q1⟩=>?_) h1;obtain⟨d,rfl,q⟩:=q1;cases r1
 exact wpAny_truthy_bool ⟨H1,I1,q⟩
theorem Bd{e:Expr}{t:TE}(h:PE X e t)(he:∀mq,isTrue e X.env mq=(do let v <-mq;standAt e.pos;holding [v] (truthy v)):=by intro _;rfl):PT X e (tB t):=by
 intro ae s σ H Q I hw;refine isTrue_plain (d7 (h ae s σ H _ I hw) fun v s1⟨x,H1,I1,r1,q1⟩=>?_) (he _);obtain⟨d,rfl,q⟩:=q1;cases r1
 exact wpAny_truthy_bool ⟨H1,I1,q⟩
variable{tA LQ:TT}{uc:List Expr}
def ED(t u:TT):TT:=fun σ H Q=>t σ H fun c H1=>if c=true then u σ H1 Q else Q false H1
def LU(t u:TT):TT:=fun σ H Q=>t σ H fun c H1=>if c=true then Q true H1 else u σ H1 Q
def EH(t:TT):TT:=fun σ H Q=>t σ H fun c H1=>Q (!c) H1
theorem Mh(ha:PT X a tA):PW X (.BoolOp .And [a] pos) tA:=by
 intro wh ae s σ H Q I h;refine isTrue_and (d7 (ha ae s σ H Q I h) fun c s1 e=>?_);cases c with
 |true=>exact isTrue_and_nil e
 |false=>exact e
theorem Mt(ha:PT X a tA):PW X (.BoolOp .Or [a] pos) tA:=by
 intro wh ae s σ H Q I h;refine isTrue_or (d7 (ha ae s σ H Q I h) fun c s1 e=>?_);cases c with
 |false=>exact isTrue_or_nil e
 |true=>exact e
theorem La(ha:PT X a tA)(hb:PW X (.BoolOp .And (b::uc) pos) LQ):PW X (.BoolOp .And (a::b::uc) pos) (ED tA LQ):=by
 intro wh ae s σ H Q I h;refine isTrue_and (d7 (ha ae s σ H _ I h) fun c s1⟨H1,I1,q1⟩=>?_);cases c with
 |true=>exact hb wh ae s1 σ H1 Q I1 q1
 |false=>exact⟨H1,I1,q1⟩
theorem pw_or(ha:PT X a tA)(hb:PW X (.BoolOp .Or (b::uc) pos) LQ):PW X (.BoolOp .Or (a::b::uc) pos) (LU tA LQ):=by
 intro wh ae s σ H Q I h;refine isTrue_or (d7 (ha ae s σ H _ I h) fun c s1⟨H1,I1,q1⟩=>?_);cases c with
 |true=>exact⟨H1,I1,q1⟩
 |false=>exact hb wh ae s1 σ H1 Q I1 q1
theorem Be(ha:PT X a tA):PT X (.UnaryOp .Not a pos) (EH tA):=by intro ae s σ H Q I h;exact isTrue_not (ha ae s σ H (fun c H1=>Q (!c) H1) I h)
def zX(ta tb:TE):TE:=fun σ H Q=>ta σ H fun x H1=>∃c,x= .bl c/\if c=true then tb σ H1 Q else Q (.bl false) H1
def Hw(ta tb:TE):TE:=fun σ H Q=>ta σ H fun x H1=>∃c,x= .bl c/\if c=true then Q (.bl true) H1 else tb σ H1 Q
def Dc(ta:TE):TE:=fun σ H Q=>ta σ H fun x H1=>∃c,x= .bl c/\Q (.bl (!c)) H1
theorem Uk{op}{t:TE}(h:PE X a t):PE X (.BoolOp op [a] pos) t:=fun ae s σ H Q I hw=>BoolOp_one (h ae s σ H Q I hw)
theorem Mu(ha:PE X a ta)(hb:PE X (.BoolOp .And (b::uc) pos) tb):PE X (.BoolOp .And (a::b::uc) pos) (zX ta tb):=by
 intro ae s σ H Q I h;refine BoolOp_and (d7 (ha ae s σ H _ I h) fun v s1⟨x,H1,I1,r1,q1⟩=>?_);obtain⟨c,rfl,q1⟩:=q1;cases r1
 refine wpAny_truthy_bool ?_;cases c with
 |true=>exact hb ae s1 σ H1 Q I1 q1
 |false=>exact⟨.bl false,H1,I1,rfl,q1⟩
def LR(t:TT)(ta tb:TE):TE:=fun σ H Q=>t σ H fun c H1=>if c=true then ta σ H1 Q else tb σ H1 Q
theorem L8{c:Expr}(hc:PT X c tA)(ha:PE X a ta)(hb:PE X b tb):PE X (.IfExp c a b pos) (LR tA ta tb):=by
 intro ae s σ H Q I h;refine wpAny_IfExp (d7 (hc ae s σ H _ I h) fun d s1⟨H1,I1,q1⟩=>?_);cases d with
 |true=>exact ha ae s1 σ H1 Q I1 q1
 |false=>exact hb ae s1 σ H1 Q I1 q1
end
def iO(K:aa)(H:Hp)(a:Addr)(xs:List V):Prop:=
 Rd H a (.lst xs)\/
  ∃(o:Obj)(dJ:Array Value)(n:Nat),K.lookup a=some o/\o.cls= .type "list"/\o.dict=none/\o.data= .seq dJ n/\dJ.size<=sizeLine/\bP xs dJ.toList
def p9(K:aa)(H:Hp)(a:Addr)(xs:List V):Prop:=
 Rd H a (.tup xs)\/
  ∃(o:Obj)(dJ:Array Value)(n:Nat),K.lookup a=some o/\o.cls= .type "tuple"/\o.data= .seq dJ n/\dJ.size<=sizeLine/\bP xs dJ.toList
def MO:Value->Option V
 | .none=>some .non
 | .bool b=>some (.bl b)
 | .int i _=>some (.int i)
 | .str x _=>some (.str x)
 | .bytes b _=>some (.byt b)
 | .float b _=>some (.flt b)
 | .ref a=>some (.ref a)
 | .type n=>some (.ty n)
 |_=>none
theorem RelV.abs{x:V}{u:Value}(r:RelV x u):MO u=some x:=by
 cases x with
 |non=>cases r;rfl
 |bl _=>cases r;rfl
 |int _=>obtain⟨t,rfl⟩:=r;rfl
 |str _=>obtain⟨t,rfl⟩:=r;rfl
 |byt _=>obtain⟨t,rfl⟩:=r;rfl
 |flt _=>obtain⟨t,rfl⟩:=r;rfl
 |ref _=>cases r;rfl
 |ty _=>cases r;rfl
theorem RelV.inj{x y:V}{u:Value}(r:RelV x u)(q:RelV y u):x=y:=aK (r.abs.symm.trans q.abs)
theorem bP.inj:∀{xs ys:List V}{us:List Value},bP xs us->bP ys us->xs=ys
 |_,_,_,.nil,.nil=>rfl
 |_,_,_,.cons r t,.cons r' t'=>by rw[r.inj r',bP.inj t t']
section
variable{X:Cx}{ae:List (Addr×Obj)}{σ:St}{H:Hp}{s:Shared}{a:Addr}{xs ys:List V}
theorem iO.of{K:aa}(h:H a=some (.lst xs)):iO K H a xs:=.inl (.inl h)
theorem p9.of{K:aa}(h:H a=some (.tup xs)):p9 K H a xs:=.inl (.inl h)
theorem Inv.list(I:Inv X ae σ H s)(h:iO X.K H a xs):∃dJ:List Value,bP xs dJ/\PlainL s.heap a dJ.toArray/\xs.length<=sizeLine:=by
 rcases h with h|⟨o,dJ,n,hk,hc,hd,hs,hz,r⟩
 ·obtain⟨z,dJ,n,r,e⟩:=h.ok I.cu;exact⟨dJ,r,⟨_,n,e,rfl,rfl,rfl⟩,z⟩
 ·refine⟨dJ.toList,r,⟨o,n,I.l7 a o hk,hc,hd,by simpa using hs⟩,?_⟩;have e:=r.length;simp only[iX]at e;omega
theorem Inv.tuple(I:Inv X ae σ H s)(h:p9 X.K H a xs):∃dJ:List Value,bP xs dJ/\IsTup s.heap a dJ.toArray/\xs.length<=sizeLine:=by
 rcases h with h|⟨o,dJ,n,hk,hc,hs,hz,r⟩
 ·obtain⟨z,dJ,r,p⟩:=h.ok I.cu;exact⟨dJ,r,p,z⟩
 ·refine⟨dJ.toList,r,⟨o,I.l7 a o hk,hc,n,by simpa using hs⟩,?_⟩;have e:=r.length;simp only[iX]at e;omega
theorem Inv.wS(I:Inv X ae σ H s)(h:iO X.K H a xs)(h':iO X.K H a ys):xs=ys:=by
 obtain⟨dJ,r,⟨o,n,e,_,_,d⟩,_⟩:=I.list h;obtain⟨its',r',⟨o',n',e',_,_,d'⟩,_⟩:=I.list h';rw[e]at e';cases e'
 rw[d]at d';injection d' with d1 _
 have:dJ=its':=by simpa using congrArg Array.toList d1
 subst this;exact r.inj r'
end
abbrev Cx.um(X:Cx)(E:Value->Shared->Prop):Cx:={X with xe:=E}
abbrev Cx.xR(X:Cx):Cx:=X.um fun _ _=>False
theorem Cx.Ok.um{X:Cx}(ok:X.Ok)(E:Value->Shared->Prop):(X.um E).Ok:=
 ⟨ok.mod,ok.kind,ok.glob,ok.blt,ok.above,ok.inj,ok.has,ok.D7,ok.hd,ok.frames,ok.FM,ok.E6,ok.bs,ok.zo,ok.vD,ok.vj,ok.jq,ok.Bo⟩
theorem Cx.Ok.kZ{X:Cx}{E:Value->Shared->Prop}(ok:(X.um E).Ok):X.Ok:=
 ⟨ok.mod,ok.kind,ok.glob,ok.blt,ok.above,ok.inj,ok.has,ok.D7,ok.hd,ok.frames,ok.FM,ok.E6,ok.bs,ok.zo,ok.vD,ok.vj,ok.jq,ok.Bo⟩
section
variable{X:Cx}{ae:List (Addr×Obj)}{σ:St}{H:Hp}{s:Shared}{E:Value->Shared->Prop}
theorem Inv.um(I:Inv X ae σ H s)(E:Value->Shared->Prop):Inv (X.um E) ae σ H s:=⟨I.ok.um E,I.os,I.bare,I.base,I.loc,I.cell,I.free,I.ia,I.pin,I.cu,I.len⟩
theorem Inv.kZ(I:Inv (X.um E) ae σ H s):Inv X ae σ H s:=⟨I.ok.kZ,I.os,I.bare,I.base,I.loc,I.cell,I.free,I.ia,I.pin,I.cu,I.len⟩
theorem SP.kZ{D:Ends}{f:Flow}{s':Shared}(h:SP (X.um E) ae D f s'):SP X ae D f s':=by
 cases f with
 |next=>obtain⟨σ',H',I,q⟩:=h;exact⟨σ',H',I.kZ,q⟩
 |brk=>obtain⟨σ',H',I,q⟩:=h;exact⟨σ',H',I.kZ,q⟩
 |cont=>obtain⟨σ',H',I,q⟩:=h;exact⟨σ',H',I.kZ,q⟩
 |ret u=>obtain⟨v,σ',H',I,r,q⟩:=h;exact⟨v,σ',H',I.kZ,r,q⟩
theorem qU.xR{st:List Stmt}{t:TS}(h:qU X.xR st t):qU X st t:=fun ae s σ H D I hw=>
 wpAny_mono (h ae s σ H D (I.um _) hw) (fun _ _ q=>q.kZ) fun _ _ z=>aX z
end
section
variable{X:Cx}{st:Stmt}{uc:List Stmt}{t u:TS}{e:Expr}{te:TE}{pos:Pos}
def xz:TS:=fun D σ H=>D.nx σ H
def c9(t u:TS):TS:=fun D σ H=>t {D with nx:=u D} σ H
theorem gX:qU X [] xz:=fun _ _ σ H _ I h=>wpAny_execs_nil ⟨σ,H,I,h⟩
theorem bJ(h1:PS X st t)(h2:qU X uc u):qU X (st::uc) (c9 t u):=by
 intro ae s σ H D I h;refine wpAny_execs_cons (d7 (h1 ae s σ H {D with nx:=u D} I h) fun f s1 q=>?_);cases f with
 |next=>
  obtain⟨σ',H',I',q⟩:=q;exact h2 ae s1 σ' H' D I' q
 |ret v=>exact q
 |brk=>exact q
 |cont=>exact q
theorem bR(h1:PS X st t):qU X [st] t:=by
 intro ae s σ H D I h;refine wpAny_execs_cons (d7 (h1 ae s σ H D I h) fun f s1 q=>?_);cases f with
 |next=>exact wpAny_execs_nil q
 |ret v=>exact q
 |brk=>exact q
 |cont=>exact q
theorem Z2:PS X (.Pass pos) xz:=fun _ _ σ H _ I h=>wpAny_Pass ⟨σ,H,I,h⟩
theorem Inv.quiet{ae:List (Addr×Obj)}{σ:St}{H:Hp}{s:Shared}(I:Inv X ae σ H s):interactive X.env=false:=by simp[interactive,I.ok.kind]
def z3(te:TE):TS:=fun D σ H=>te σ H fun _ H1=>D.nx σ H1
theorem gf(he:PE X e te)(hs:swapsWith e none pos.line X.env=pure false:=by rfl):PS X (.Expr e pos) (z3 te):=by intro ae s σ H D I h;exact wpAny_Expr_any (d7 (he ae s σ H _ I h) fun v s1⟨x,H1,I1,r1,q1⟩=>⟨σ,H1,I1,q1⟩) I.quiet hs
def qL(te:TE):TS:=fun D σ H=>te σ H D.rt
theorem ki(he:PE X e te):PS X (.Return (some e) pos) (qL te):=by intro ae s σ H D I h;exact wpAny_Return_some (d7 (he ae s σ H _ I h) fun v s1⟨x,H1,I1,r1,q1⟩=>⟨x,σ,H1,I1,r1,q1⟩)
def Dd:TS:=fun D _ H=>D.rt .non H
def uh(c:TT)(t u:TS):TS:=fun D σ H=>c σ H fun b H1=>if b=true then t D σ H1 else u D σ H1
theorem bC{c:Expr}{a b:List Stmt}{tc:TT}(hc:PT X c tc)(ha:qU X a t)(hb:qU X b u):PS X (.If c a b pos) (uh tc t u):=by
 intro ae s σ H D I h;refine wpAny_If (d7 (hc ae s σ H _ I h) fun d s1⟨H1,I1,q1⟩=>?_);cases d with
 |true=>exact ha ae s1 σ H1 D I1 q1
 |false=>exact hb ae s1 σ H1 D I1 q1
def zxy:TS:=fun _ _ _=>False
theorem vV:PS X st zxy:=fun _ _ _ _ _ _ h=>h.elim
end
abbrev TG:=V->St->Hp->(St->Hp->Prop)->Prop
abbrev EZ:=List V->St->Hp->(St->Hp->Prop)->Prop
def PG(X:Cx)(fX:Expr)(t:TG):Prop:=
 ∀(ae:List (Addr×Obj))(s:Shared)(σ:St)(H:Hp)(v:V)(u:Value)(Q:St->Hp->Prop),Inv X ae σ H s->RelV v u->t v σ H Q->
  wpAny (model X.prog X.w) X.A (assign fX X.env u) (fun _ s'=>∃σ' H',Inv X ae σ' H' s'/\Q σ' H') X.xe s
def IS(X:Cx)(ts:List Expr)(t:EZ):Prop:=
 ∀(ae:List (Addr×Obj))(s:Shared)(σ:St)(H:Hp)(vs:List V)(us:List Value)(Q:St->Hp->Prop),Inv X ae σ H s->bP vs us->t vs σ H Q->
  wpAny (model X.prog X.w) X.A (assignInOrder ((assignEach ts X.env).map (·.2)) us) (fun _ s'=>∃σ' H',Inv X ae σ' H' s'/\Q σ' H') X.xe s
section
variable{X:Cx}{pos:Pos}
def rS(i:Nat):TG:=fun v σ H Q=>Q (σ.set i (some v)) H
theorem Ac{i:Nat}{x:Str}(hN:X.N.Nodup)(hi:X.N[i]?=some x)(hx:Loc X.env.scope x)(hf:X.fn x=true\/X.env.scope.names.lookup x=some .local:=by first|exact .inl rfl|exact .inr rfl|assumption):PG X (.Name x pos) (rS i):=by intro ae s σ H v u Q I r h;exact wpAny_assign_Name (L7 I hN hi hx r (fun s' I'=>⟨_,H,I',h⟩) hf)
def Ef:EZ:=fun vs σ H Q=>vs=[]/\Q σ H
def zw(t:TG)(u:EZ):EZ:=fun vs σ H Q=>∃v r,vs=v::r/\t v σ H fun σ' H'=>u r σ' H' Q
theorem OV:IS X [] Ef:=by
 intro ae s σ H vs us Q I r h;obtain⟨e,h⟩:=h;subst e;cases r
 exact assignInOrder_nil ⟨σ,H,I,h⟩
theorem Iq{e:Expr}{es:List Expr}{t:TG}{u:EZ}(h1:PG X e t)(h2:IS X es u)(hs:(assignEach (e::es) X.env).map (·.2)=assign e X.env::(assignEach es X.env).map (·.2):=by rfl):IS X (e::es) (zw t u):=by
  intro ae s σ H vs us Q I r h;obtain⟨v,vr,e1,h⟩:=h;subst e1;cases r with
  |cons r rr=>
    rw[hs];refine assignInOrder_cons (d7 (h1 ae s σ H _ _ _ I r h) fun _ s1⟨σ1,H1,I1,q1⟩=>?_);exact h2 ae s1 σ1 H1 _ _ Q I1 rr q1
def B7(K:aa)(n:Nat)(t:EZ):TG:=fun v σ H Q=>∃a xs,v= .ref a/\p9 K H a xs/\xs.length=n/\t xs σ H Q
theorem zxz{es:List Expr}{k:Nat}{t:EZ}{n:Nat}(hc:X.calm=true)(h:IS X es t)(hn:(assignEach es X.env).length=n:=by rfl)(Bq:(assignEach es X.env).findIdx? (·.1)=none:=by rfl):PG X (.Tuple es k pos) (B7 X.K n t):=by
  intro ae s σ H v u Q I r hw;obtain⟨a,xs,e1,hq,hl,hw⟩:=hw;subst e1;cases r
  obtain⟨dJ,rv,ht,hz⟩:=I.tuple hq;refine assign_Tuple_tuple (I.ok.hd hc) ht (by simp[hn,<-hl,rv.length]) Bq fun h' hx=>?_;have I1:Inv X ae σ H {s with heap:=h'}:=I.kept (t':=s.toks) fun b o e=>hx b o (aJ (Heap.lt_size e)) e;exact h ae _ σ H xs _ Q I1 (by simpa using rv) hw
def yX(te:TE)(g:TG):TS:=fun D σ H=>te σ H fun x H1=>g x σ H1 D.nx
theorem zya{i:Nat}{x:Str}{e:Expr}{te:TE}{nY:Pos}(hN:X.N.Nodup)(hi:X.N[i]?=some x)(hx:Loc X.env.scope x)(he:PE X e te)(hs:swapsWith e (some (.Name x nY)) pos.line X.env=pure false:=by rfl)(hf:X.fn x=true\/X.env.scope.names.lookup x=some .local:=by first|exact .inl rfl|exact .inr rfl|assumption):
    PS X (.Assign [.Name x nY] e pos) (yX te (rS i)):=by
  intro ae s σ H D I h;refine wpAny_Assign_Name (d7 (he ae s σ H _ I h) fun v s1⟨y,H1,I1,r1,q1⟩=>?_) hs;exact L7 I1 hN hi hx r1 (fun s2 I2=>⟨_,H1,I2,q1⟩) hf
def Hx(i j:Nat)(ta:TA):TS:=fun D σ H=>ta σ H fun vs H1=>∃v w,vs=[v,w]/\D.nx ((σ.set i (some v)).set j (some w)) H1
end
section
variable{X:Cx}{pos:Pos}
def Pa(c:TT)(tb:TS):TS:=fun D σ H=>∃W:Nat->St->Hp->Prop,(∃m,W m σ H)/\∀m σ H,W m σ H->
 c σ H fun b H1=>if b=true then ∃N:St->Hp->Prop,(∀σ' H',N σ' H'->∃m',m' < m/\W m' σ' H')/\tb {D with nx:=N,ct:=N,bk:=D.nx} σ H1 else D.nx σ H1
theorem Ma{c:Expr}{body:List Stmt}{tc:TT}{tb:TS}(hp:PassesOwn (model X.prog X.w) X.A X.env X.xe)(hc:PT X c tc)(hb:qU X body tb):PS X (.While c body [] pos) (Pa tc tb):=by
 intro ae s σ H D I h;obtain⟨W,⟨m0,w0⟩,za⟩:=h;refine wpAny_While (codeAny_whileLoop (fun n s'=>∃σ' H',Inv X ae σ' H' s'/\W n σ' H') ?_ m0 ⟨σ,H,I,w0⟩);rintro n s1 ⟨σ1,H1,I1,w1⟩;refine wpAny_passesOwn hp (d7 (hc ae s1 σ1 H1 _ I1 (za n σ1 H1 w1)) fun b s2⟨H2,I2,q2⟩=>?_);cases b with
 |true=>
  obtain⟨N,hN,q2⟩:=q2;rw[if_pos rfl];refine wpAny_passesOwn hp (d7 (hb ae s2 σ1 H2 _ I2 q2) fun f s3 q3=>?_);cases f with
  |next=>
   obtain⟨σ3,H3,I3,n3⟩:=q3;obtain⟨m',hm,w3⟩:=hN σ3 H3 n3;exact⟨m',hm,σ3,H3,I3,w3⟩
  |cont=>
   obtain⟨σ3,H3,I3,n3⟩:=q3;obtain⟨m',hm,w3⟩:=hN σ3 H3 n3;exact⟨m',hm,σ3,H3,I3,w3⟩
  |brk=>exact q3
  |ret v=>exact q3
 |false=>
  rw[if_neg aG];exact wpAny_execs_nil ⟨σ1,H2,I2,q2⟩
end
structure It where
 go:Nat->Hp->Prop
 F0:Nat->Hp->V->Hp->Prop
 stop:Nat->Hp->Prop
def u0(X:Cx)(ae:List (Addr×Obj))(H:Hp)(b:Addr):Prop:=
 H b=none/\b≠X.env.locals/\b∉X.fs/\(b∈X.ex\/X.s₀.heap.objs.size<=b)/\(∀x c,X.env.cells.lookup x=some c->c≠b)/\∀p∈X.pn++ae,p.1≠b
theorem Inv.Ax{X:Cx}{ae:List (Addr×Obj)}{σ:St}{H H':Hp}{s:Shared}{b:Addr}(I:Inv X ae σ H s)(hb:s.heap.objs.size<=b)(hn:H' b=none):u0 X ae H' b:=by
 refine⟨hn,lO (av I.lt hb),I.NL hb,.inr (bf I.sz hb),fun x c e z=>?_,fun p hp z=>?_⟩
 ·obtain⟨v,q⟩:=I.cell x c e;exact absurd (av q.lt (by rw[z];exact hb)) (dU _)
 ·exact absurd (av (Heap.lt_size (I.pin p hp).1) (by rw[z];exact hb)) (dU _)
structure Ar(P:Program)(w:World)(K:aa)(tg:Expr)(J:It)(fp:List Addr)(it:Addr)(tn:Nat->Heap->Prop):Prop where
 mem:it∈fp
 obj:∀i h,tn i h->∀b∈fp,∃o,h.get? b=some o/\∀v,o.data≠.cell v
 keep:∀i h h',tn i h->(∀b∈fp,∀o,h.get? b=some o->h'.get? b=some o)->tn i h'
 item:∀(X:Cx),X.prog=P->X.w=w->X.K=K->X.calm=true->∀(i:Nat)(ae:List (Addr×Obj))(s:Shared)(σ:St)(H:Hp)(E:Value->Shared->Prop),Inv X ae σ H s->(∀b∈fp,u0 X ae H b)->tn i s.heap->J.go i H->
  wpAny (model P w) X.A (pyNext (.ref it)) (fun r s1=>∃u,r=some u/\
   wpAny (model P w) X.A (letOwnedTupleGo tg (.ref it) u) (fun _ s2=>∃x H',Inv X ae σ H' s2/\RelV x u/\J.F0 i H x H'/\tn (i+1) s2.heap/\∀b∈fp,H' b=none) E s1) E s
 done:∀(X:Cx),X.prog=P->X.w=w->X.K=K->X.calm=true->∀(i:Nat)(ae:List (Addr×Obj))(s:Shared)(σ:St)(H:Hp)(E:Value->Shared->Prop),Inv X ae σ H s->(∀b∈fp,u0 X ae H b)->tn i s.heap->J.stop i H->
  wpAny (model P w) X.A (pyNext (.ref it)) (fun r s1=>r=none/\Inv X ae σ H s1) E s
 self:∀(A:Around)(i:Nat)(s:Shared)(Q:Value->Shared->Prop)(E:Value->Shared->Prop),tn i s.heap->Q (.ref it) s->wpAny (model P w) A (pyIter (.ref it)) Q E s
abbrev TI:=St->Hp->(It->Hp->Prop)->Prop
def MG(X:Cx)(ae:List (Addr×Obj))(σ:St)(tg:Expr)(R:It->Hp->Prop)(Nv:Value)(s2:Shared):Prop:=
 ∃(it:Addr)(fp:List Addr)(tn:Nat->Heap->Prop)(J:It)(H':Hp),Nv= .ref it/\Inv X ae σ H' s2/\Ar X.prog X.w X.K tg J fp it tn/\tn 0 s2.heap/\(∀b∈fp,u0 X ae H' b)/\R J H'
def PI(X:Cx)(tg iter:Expr)(wi:TI):Prop:=
 ∀(ae:List (Addr×Obj))(s:Shared)(σ:St)(H:Hp)(R:It->Hp->Prop),Inv X ae σ H s->wi σ H R->
  wpAny (model X.prog X.w) X.A (eval iter X.env) (fun v s1=>wpAny (model X.prog X.w) X.A (pyIter v) (MG X ae σ tg R) X.xe s1) X.xe s
theorem B8 {M:Model} {A:Around} {E:Value->Shared->Prop} {s:Shared} {tg:Expr} {it:Addr} {u:Value} {o:Obj} {n:String} {vs:Array Value} {Q:Unit->Shared->Prop} (ho:s.heap.get? it=some o) (hc:o.cls = .type n) (hd:o.data = .fields vs)
    (hn:["enumerate", "zip", "dict_itemiterator", "dict_reverseitemiterator", "odict_iterator", "itertools.zip_longest", "itertools.pairwise"].contains n=false) (hQ:Q () s):wpAny M A (letOwnedTupleGo tg (.ref it) u) Q E s:=by
  unfold letOwnedTupleGo
  cases tg <;> first
    | exact wpAny_pure hQ
    | (cases u <;> first
        | exact wpAny_pure hQ
        | (refine wpAny_bind (wpAny_load ho ?_)
           rw [hc,hd]
           show wpAny M A (if (["enumerate", "zip", "dict_itemiterator", "dict_reverseitemiterator", "odict_iterator", "itertools.zip_longest", "itertools.pairwise"].contains n && vs[0]? == some (rawInt _))=true then _ else _) Q E s
           rw [if_neg (by intro h; rw [hn,Bool.false_and] at h; cases h)]
           exact wpAny_pure hQ))
def HL(K:aa)(a:Addr):It:=
 ⟨fun i H=>∃xs x,iO K H a xs/\xs[i]?=some x,fun i H x H'=>H'=H/\∀xs,iO K H a xs->xs[i]?=some x,fun i H=>∃xs,iO K H a xs/\xs.length<=i⟩
def UU(K:aa)(a:Addr):It:=
 ⟨fun i H=>∃xs x,p9 K H a xs/\xs[i]?=some x,fun i H x H'=>H'=H/\∀xs,p9 K H a xs->xs[i]?=some x,fun i H=>∃xs,p9 K H a xs/\xs.length<=i⟩
def Gc(lo:Int)(n:Nat):It:=⟨fun i _=>i<n,fun i H x H'=>H'=H/\x= .int (lo+i),fun i _=>n<=i⟩
theorem YH{P:Program}{w:World}{K:aa}{tg:Expr}(a it:Addr):Ar P w K tg (HL K a) [it] it (fun i h=>h.IsListIter it a i) where
 mem:=by simp
 obj:=fun i h st b hb=>by
  have e:b=it:=by simpa using hb
  subst e;obtain⟨o,e,c,d⟩:=st;exact⟨o,e,fun v z=>by rw[d]at z;cases z⟩
 keep:=fun i h h' st k=>st.at fun o e=>k it (by simp) o e
 item:=by intro X hP hw hK hc i ae s σ H E I hf st hg;subst hP hw hK;obtain⟨xs,x,hq,hx⟩:=hg;obtain⟨dJ,rv,p,hz⟩:=I.list hq;obtain⟨u,hu,ru⟩:=rv.get hx;obtain⟨f0,f1,f2,f3,f4,f5⟩:=hf it (by simp);refine wpAny_pyNext_list_item st p.isList (x:=u) (by simpa using hu) fun h' FL sb=>?_;have I1:Inv X ae σ H {s with heap:=h'}:=I.turned (t':=s.toks) (fun b o hb e=>(sb.2 b hb).trans e) f0 f1 f3 f4 f5;obtain⟨o,e,c,d⟩:=id FL;exact⟨u,rfl,B8 (s:={s with heap:=h'}) e c d (by decide) ⟨x,H,I1,ru,⟨rfl,fun ys hy=>by rw[I.wS hy hq];exact hx⟩,FL,fun b hb=>(hf b hb).1⟩⟩
 done:=by intro X hP hw hK hc i ae s σ H E I hf st hg;subst hP hw hK;obtain⟨xs,hq,hx⟩:=hg;obtain⟨dJ,rv,p,hz⟩:=I.list hq;obtain⟨f0,f1,f2,f3,f4,f5⟩:=hf it (by simp);have hl:=rv.length;exact wpAny_pyNext_list_end (I.ok.hd hc) st p.isList (by simp;omega) fun h' eb=>⟨rfl,I.turned (t':=s.toks) (fun b o hb e=>eb b o hb e) f0 f1 f3 f4 f5⟩
 self:=fun _ _ _ _ _ st h=>wpAny_pyIter_listiter st h
theorem Yh{P:Program}{w:World}{K:aa}{tg:Expr}(it:Addr)(lo:Int)(n:Nat):Ar P w K tg (Gc lo n) [it] it (fun i h=>IsRangeIter h it (lo+(i:Nat)*1) ((n:Int)-(i:Nat)) 1) where
 mem:=by simp
 obj:=fun i h st b hb=>by
  have e:b=it:=by simpa using hb
  subst e;exact⟨_,st,fun v z=>by have z':Data.fields _=Data.cell v:=z;cases z'⟩
 keep:=fun i h h' st k=>k it (by simp) _ st
 item:=by intro X hP hw hK hc i ae s σ H E I hf st hg;subst hP hw hK;obtain⟨f0,f1,f2,f3,f4,f5⟩:=hf it (by simp);have W:=Walks.range (prog:=X.prog) (w:=X.w) (I.ok.hd hc) it lo 1 n;refine W.item i s _ _ hg st fun v h' tk hv FL kk=>?_;obtain⟨t,rfl⟩:=hv;have I1:Inv X ae σ H {s with heap:=h',toks:=tk}:=I.turned (fun b o hb e=>kk b o (by simpa using hb) e) f0 f1 f3 f4 f5;refine⟨_,rfl,B8 (s:={s with heap:=h',toks:=tk}) (n:="range_iterator") FL rfl rfl (by decide) ⟨.int (lo+i),H,I1,⟨t,?_⟩,⟨rfl,rfl⟩,FL,fun b hb=>(hf b hb).1⟩⟩;rw[Int.mul_one]
 done:=by intro X hP hw hK hc i ae s σ H E I hf st hg;subst hP hw hK;obtain⟨f0,f1,f2,f3,f4,f5⟩:=hf it (by simp);exact wpAny_pyNext_range_end (I.ok.hd hc) st (by have:n<=i:=hg;omega) fun h' eb=>⟨rfl,I.turned (t':=s.toks) (fun b o hb e=>eb b o hb e) f0 f1 f3 f4 f5⟩
 self:=fun _ _ _ _ _ st h=>wpAny_pyIter_rangeiter st h
section
variable{X:Cx}{tg:Expr}
def wO(K:aa)(tl:TE):TI:=fun σ H R=>tl σ H fun x H1=>∃a,x= .ref a/\(∃xs,iO K H1 a xs)/\R (HL K a) H1
def GQ(K:aa)(tl:TE):TI:=fun σ H R=>tl σ H fun x H1=>∃a,x= .ref a/\(∃xs,p9 K H1 a xs)/\R (UU K a) H1
theorem Z3{l:Expr}{tl:TE}(hl:PE X l tl):PI X tg l (wO X.K tl):=by
 intro ae s σ H R I h;refine d7 (hl ae s σ H _ I h) fun v s1⟨x,H1,I1,r1,q1⟩=>?_;obtain⟨a,e,⟨xs,hq⟩,q⟩:=q1;subst e;cases r1
 obtain⟨dJ,rv,p,hz⟩:=I1.list hq;refine wpAny_pyIter_list p.isList ?_;refine⟨s1.heap.objs.size,[s1.heap.objs.size],_,_,H1,rfl,I1.kept (t':=s1.toks) fun b o e=>Heap.get?_push_of_some _ e,YH a _,⟨_,Heap.get?_push_size _ rfl,rfl,rfl⟩,fun b hb=>?_,q⟩;have e:b=s1.heap.objs.size:=by simpa using hb
 subst e;exact I1.Ax (ao _) (I1.cu.fresh (ao _))
theorem Zd{ae:List (Addr×Obj)}{σ:St}{H:Hp}{s:Shared}{R:It->Hp->Prop}{E:Value->Shared->Prop}{lo hi:Int}{t u v:Tok}{tk:Nat}(I:Inv X ae σ H s)(h1:-(2^62)<=lo)(h2:lo<2^62)(h3:-(2^62)<=hi)(h4:hi<2^62)(q:R (Gc lo (hi-lo).toNat) H):wpAny (model X.prog X.w) X.A (pyIter (.ref s.heap.objs.size)) (MG X ae σ tg R) E {s with heap:=s.heap.push {cls:=.type "range",data:=.fields #[.int lo t,.int hi u,.int 1 v]},toks:=tk}:=by
  refine wpAny_pyIter_range (IsRange.new ..) (small_one h1 h2 h3 h4) ?_;have I1:Inv X ae σ H {s with heap:=s.heap.push {cls:=.type "range",data:=.fields #[.int lo t,.int hi u,.int 1 v]},toks:=tk}:=I.kept fun b o e=>Heap.get?_push_of_some _ e;refine⟨(s.heap.push {cls:=.type "range",data:=.fields #[.int lo t,.int hi u,.int 1 v]}).objs.size,[(s.heap.push {cls:=.type "range",data:=.fields #[.int lo t,.int hi u,.int 1 v]}).objs.size],_,_,H,rfl,
    I1.kept (t':=tk) fun b o e=>Heap.get?_push_of_some _ e,Yh _ lo (hi-lo).toNat,?_,fun b hb=>?_,q⟩
  · have e1:lo+((0:Nat):Int)*1=lo:=by simp
    have e2:(((hi-lo).toNat:Nat):Int)-((0:Nat):Int)=Builtin.Range.rangeSize lo hi 1:=by rw[rangeSize_one];split <;> omega
    show IsRangeIter _ _ (lo+((0:Nat):Int)*1) ((((hi-lo).toNat:Nat):Int)-((0:Nat):Int)) 1;rw[e1,e2];exact Heap.get?_push_size _ rfl
  · have e:b=(s.heap.push {cls:=.type "range",data:=.fields #[.int lo t,.int hi u,.int 1 v]}).objs.size:=by simpa using hb
    subst e;exact I1.Ax (ao _) (I1.cu.fresh (ao _))
def zz(ta:TA):TI:=fun σ H R=>ta σ H fun vs H1=>∃j:Int,vs=[.int j]/\-(2^62)<=j/\j<2^62/\R (Gc 0 j.toNat) H1
def Cj(ta:TA):TI:=fun σ H R=>ta σ H fun vs H1=>∃i j:Int,vs=[.int i,.int j]/\(-(2^62)<=i/\i<2^62/\-(2^62)<=j/\j<2^62)/\R (Gc i (j-i).toNat) H1
theorem YI{a:Expr}{ta:TA}{p pos:Pos}(hg:Gl X "range")(hm:X.mg "range"=none)(ha:PA X [a] ta)(hs:starEach [a] X.env=[(false,eval a X.env)]:=by rfl):PI X tg (.Call (.Name "range" p) [a] [] pos) (zz ta):=by
 intro ae s σ H R I h;refine Call_ (HE I hg hm boot_range (e7 (d7 (ha pos ae s σ H _ I h) fun us s1⟨vs,H1,I1,r1,q1⟩=>?_) hs rfl));obtain⟨j,e,q1,q2,q⟩:=q1;subst e;cases r1 with
 |cons r rr=>
  cases rr;obtain⟨t,rfl⟩:=r
  exact call_range_1 (Zd I1 (by omega) (by omega) q1 q2 (by simpa using q))
def KL(wi:TI)(g:TG)(tb:TS):TS:=fun D σ H=>wi σ H fun J H1=>∃W:Nat->Nat->St->Hp->Prop,(∃m,W 0 m σ H1)/\∀i m σ H,W i m σ H->
 (J.stop i H/\D.nx σ H)\/(J.go i H/\∃N:St->Hp->Prop,(∀σ' H',N σ' H'->∃m',m' < m/\W (i+1) m' σ' H')/\∀x H',J.F0 i H x H'->g x σ H' fun σ2 H2=>tb {D with nx:=N,ct:=N,bk:=D.nx} σ2 H2)
def Lb(fp:List Addr)(h:Heap):List (Addr×Obj):=fp.filterMap fun b=>(h.get? b).map fun o=>(b,o)
theorem L4{fp:List Addr}{h:Heap}{b:Addr}{o:Obj}(hb:b∈fp)(e:h.get? b=some o):(b,o)∈Lb fp h:=pK.mpr ⟨b,hb,by rw[e];rfl⟩
theorem YJ{fp:List Addr}{h:Heap}{p:Addr×Obj}(hp:p∈Lb fp h):p.1∈fp/\h.get? p.1=some p.2:=by
 obtain⟨b,hb,e⟩:=pK.mp hp;cases q:h.get? b with
 |none=>rw[q]at e;cases e
 |some o=>
  rw[q]at e;have e':(b,o)=p:=aK e;subst e';exact⟨hb,q⟩
theorem Inv.pinned{ae:List (Addr×Obj)}{σ:St}{H:Hp}{s:Shared}{fp:List Addr}(I:Inv X ae σ H s)(hf:∀b∈fp,u0 X ae H b)(ho:∀b∈fp,∃o,s.heap.get? b=some o/\∀v,o.data≠.cell v):Inv X (ae++Lb fp s.heap) σ H s:=
 I.zJ fun p hp=>(aA.mp hp).elim (fun z=>I.pin p (bq _ z)) fun z=>by
  obtain⟨hb,e⟩:=YJ z;obtain⟨f0,f1,f2,_⟩:=hf p.1 hb;obtain⟨o,e',d⟩:=ho p.1 hb;rw[e]at e';cases e'
  exact⟨e,f0,f1,f2,d⟩
theorem Inv.oA{ae pl:List (Addr×Obj)}{σ:St}{H:Hp}{s:Shared}(I:Inv X (ae++pl) σ H s):Inv X ae σ H s:=I.zJ fun p hp=>I.pin p (bq _ (fK _ hp))
theorem Mv{iter:Expr}{body:List Stmt}{wi:TI}{g:TG}{tb:TS}{pos:Pos}(hp:PassesOwn (model X.prog X.w) X.A X.env X.xe)(hc:X.calm=true)(hi:PI X tg iter wi)(hg:PG X tg g)(hb:qU X body tb)(hs:∀x,foldedSetIterable iter X.env x=pure x:=by intro _;rfl):PS X (.For tg iter body [] pos) (KL wi g tb):=by
  intro ae s σ H D I h;refine wpAny_For (d7 (hi ae s σ H _ I h) fun v s1 h1=>d7 h1 fun Nv s2 h2=>?_) hs;obtain⟨it,fp,tn,J,H2,e,I2,T,LP,f2,W,⟨m0,w0⟩,za⟩:=h2;subst e;have yW:∀{H':Hp},(∀b∈fp,H' b=none)->∀b∈fp,u0 X ae H' b:=fun hn b hb=>⟨hn b hb,(f2 b hb).2⟩;refine codeAny_forLoop_any (fun n s'=>∃i σ' H',Inv X ae σ' H' s'/\tn i s'.heap/\(∀b∈fp,H' b=none)/\W i n σ' H') ?_ m0 ⟨0,σ,H2,I2,LP,fun b hb=>(f2 b hb).1,w0⟩;rintro n s3 ⟨i,σ3,H3,I3,QH,Jh,w3⟩;rcases za i n σ3 H3 w3 with⟨stop,qn⟩ |⟨go,N,hN,step⟩
  · refine wpAny_passesOwn hp (d7 (T.done X rfl rfl rfl hc i ae s3 σ3 H3 X.xe I3 (yW Jh) QH stop) fun r s4⟨hr,I4⟩=>?_);subst hr;exact wpAny_execs_nil ⟨σ3,H3,I4,qn⟩
  · refine wpAny_passesOwn hp (d7 (T.item X rfl rfl rfl hc i ae s3 σ3 H3 X.xe I3 (yW Jh) QH go) fun r s4⟨u,hr,h4⟩=>?_);subst hr;refine wpAny_passesOwn hp (d7 h4 fun _ s5⟨x,H5,I5,r5,y5,Im,Lv⟩=>?_);have US:=I5.pinned (yW Lv) (T.obj _ _ Im);refine wpAny_passesOwn hp (d7 (hg _ s5 σ3 H5 x u _ US r5 (step x H5 y5)) fun _ s6⟨σ6,H6,I6,q6⟩=>?_);refine wpAny_passesOwn hp (d7 (hb _ s6 σ6 H6 _ I6 q6) fun f s7 q7=>?_);have again:∀{σ7:St}{H7:Hp},Inv X (ae++Lb fp s5.heap) σ7 H7 s7->N σ7 H7->∃m,m<n/\∃i σ' H',Inv X ae σ' H' s7/\tn i s7.heap/\(∀b∈fp,H' b=none)/\W i m σ' H':=fun{σ7 H7} I7 n7=>by obtain⟨m',hm,w7⟩:=hN σ7 H7 n7;refine⟨m',hm,i+1,σ7,H7,I7.oA,T.keep _ _ _ Im fun b hb o e=>(I7.pin (b,o) (bq _ (bq _ (L4 hb e)))).1,fun b hb=>?_,w7⟩;obtain⟨o,e,d⟩:=T.obj _ _ Im b hb;exact(I7.pin (b,o) (bq _ (bq _ (L4 hb e)))).2.1
    cases f with
    |next=>obtain⟨σ7,H7,I7,n7⟩:=q7;exact again I7 n7
    |cont=>obtain⟨σ7,H7,I7,n7⟩:=q7;exact again I7 n7
    |brk=>obtain⟨σ7,H7,I7,q7⟩:=q7;exact⟨σ7,H7,I7.oA,q7⟩
    |ret v=>obtain⟨x7,σ7,H7,I7,r7,q7⟩:=q7;exact⟨x7,σ7,H7,I7.oA,r7,q7⟩
end
theorem S8{K:aa}{a:Addr}{xs:List V}{g:TG}{tb:TS}{D:Ends}{σ:St}{H:Hp}(Pv:Nat->St->Hp->Prop)(h0:Pv 0 σ H)(hl:∀i σ H,i<=xs.length->Pv i σ H->iO K H a xs)(hs:∀i x σ H,xs[i]?=some x->Pv i σ H->g x σ H fun σ2 H2=>tb {D with nx:=Pv (i+1),ct:=Pv (i+1),bk:=D.nx} σ2 H2)(hd:∀σ H,Pv xs.length σ H->D.nx σ H):
    ∃W:Nat->Nat->St->Hp->Prop,(∃m,W 0 m σ H)/\∀i m σ H,W i m σ H->
      ((HL K a).stop i H/\D.nx σ H)\/((HL K a).go i H/\∃N:St->Hp->Prop,(∀σ' H',N σ' H'->∃m',m' < m/\W (i+1) m' σ' H')/\∀x H',(HL K a).F0 i H x H'->g x σ H' fun σ2 H2=>tb {D with nx:=N,ct:=N,bk:=D.nx} σ2 H2):=by
  refine⟨fun i m σ H=>m=xs.length-i/\i<=xs.length/\Pv i σ H,⟨xs.length,by simp,di _,h0⟩,?_⟩;rintro i m σ H ⟨rfl,hi,p⟩;have q:=hl i σ H hi p;by_cases oH:i<xs.length
  · refine .inr ⟨⟨xs,xs[i],q,by simp[oH]⟩,Pv (i+1),fun σ' H' p'=>⟨xs.length-(i+1),by omega,rfl,oH,p'⟩,fun x H' y=>?_⟩;obtain⟨e,y⟩:=y;subst e;exact hs i x σ _ (y xs q) p
  · have e:i=xs.length:=by omega
    subst e;exact .inl ⟨⟨xs,q,ao _⟩,hd σ H p⟩
theorem YK{lo:Int}{n:Nat}{g:TG}{tb:TS}{D:Ends}{σ:St}{H:Hp}(Pv:Nat->St->Hp->Prop)(h0:Pv 0 σ H)(hs:∀i σ H,i<n->Pv i σ H->g (.int (lo+i)) σ H fun σ2 H2=>tb {D with nx:=Pv (i+1),ct:=Pv (i+1),bk:=D.nx} σ2 H2)(hd:∀σ H,Pv n σ H->D.nx σ H):
    ∃W:Nat->Nat->St->Hp->Prop,(∃m,W 0 m σ H)/\∀i m σ H,W i m σ H->
      ((Gc lo n).stop i H/\D.nx σ H)\/((Gc lo n).go i H/\∃N:St->Hp->Prop,(∀σ' H',N σ' H'->∃m',m' < m/\W (i+1) m' σ' H')/\∀x H',(Gc lo n).F0 i H x H'->g x σ H' fun σ2 H2=>tb {D with nx:=N,ct:=N,bk:=D.nx} σ2 H2):=by
  refine⟨fun i m σ H=>m=n-i/\i<=n/\Pv i σ H,⟨n,by simp,di _,h0⟩,?_⟩;rintro i m σ H ⟨rfl,hi,p⟩;by_cases oH:i<n
  · refine .inr ⟨oH,Pv (i+1),fun σ' H' p'=>⟨n-(i+1),by omega,rfl,oH,p'⟩,fun x H' y=>?_⟩;obtain⟨e,y⟩:=y;subst e y;exact hs i σ _ oH p
  · have e:i=n:=by omega
    subst e;exact .inl ⟨ao _,hd σ H p⟩
abbrev R2:=V->V->Hp->VK->Prop
def l0(X:Cx)(f:Value->Value->Sem Value)(r:R2):Prop:=
 ∀(ae:List (Addr×Obj))(s:Shared)(σ:St)(H:Hp)(x y:V)(v u:Value)(Q:VK),Inv X ae σ H s->RelV x v->RelV y u->r x y H Q->
  wpAny (model X.prog X.w) X.A (f v u) (EP X ae σ Q) X.xe s
def MK(X:Cx)(f:Value->Sem Value)(r:V->Hp->VK->Prop):Prop:=
 ∀(ae:List (Addr×Obj))(s:Shared)(σ:St)(H:Hp)(x:V)(v:Value)(Q:VK),Inv X ae σ H s->RelV x v->r x H Q->
  wpAny (model X.prog X.w) X.A (f v) (EP X ae σ Q) X.xe s
def kF(X:Cx)(f:Value)(r:List V->Hp->VK->Prop):Prop:=
 ∀(ae:List (Addr×Obj))(s:Shared)(σ:St)(H:Hp)(xs:List V)(us:List Value)(Q:VK),Inv X ae σ H s->bP xs us->r xs H Q->
  wpAny (model X.prog X.w) X.A (call f us) (EP X ae σ Q) X.xe s
def MJ(X:Cx)(r:V->Hp->(Bool->Hp->Prop)->Prop):Prop:=
 ∀(ae:List (Addr×Obj))(s:Shared)(σ:St)(H:Hp)(x:V)(v:Value)(Q:Bool->Hp->Prop),Inv X ae σ H s->RelV x v->r x H Q->
  wpAny (model X.prog X.w) X.A (truthy v) (TP X ae σ Q) X.xe s
def Hv(r:R2)(ta tb:TE):TE:=fun σ H Q=>ta σ H fun x H1=>tb σ H1 fun y H2=>r x y H2 Q
def LW(r:V->Hp->VK->Prop)(ta:TE):TE:=fun σ H Q=>ta σ H fun x H1=>r x H1 Q
def rI(C:Int->Int->Prop)(g:Int->Int->V):R2:=fun x y H Q=>∃i j,x= .int i/\y= .int j/\C i j/\Q (g i j) H
def CJ(g:Int->Int->V):R2:=fun x y H Q=>∃i j,x= .int i/\y= .int j/\Q (g i j) H
def rU(g:Int->V):V->Hp->VK->Prop:=fun x H Q=>∃i,x= .int i/\Q (g i) H
section
variable{X:Cx}{a b c:Expr}{ta tb tc:TE}{pos:Pos}
theorem Go(ha:PE X a ta)(hb:PE X b tb){ae:List (Addr×Obj)}{s:Shared}{σ:St}{H:Hp}{R:V->V->Hp->Prop}(I:Inv X ae σ H s)(h:ta σ H fun x H1=>tb σ H1 fun y H2=>R x y H2){Q:Value->Shared->Prop}{f:Value->Value->Sem Value}(hf:∀v u s2 x y H2,Inv X ae σ H2 s2->RelV x v->RelV y u->R x y H2->wpAny (model X.prog X.w) X.A (f v u) Q X.xe s2):
    wpAny (model X.prog X.w) X.A (eval a X.env) (fun v s₁=>wpAny (model X.prog X.w) X.A (eval b X.env) (fun u s₂=>wpAny (model X.prog X.w) X.A (f v u) Q X.xe s₂) X.xe s₁) X.xe s:=by
  refine d7 (ha ae s σ H _ I h) fun v s1⟨x,H1,I1,r1,q1⟩=>?_;refine d7 (hb ae s1 σ H1 _ I1 q1) fun u s2⟨y,H2,I2,r2,q2⟩=>?_;exact hf v u s2 x y H2 I2 r1 r2 q2
theorem bj{op:Operator}{r:R2}(ho:l0 X (binaryOp op) r)(ha:PE X a ta)(hb:PE X b tb):PE X (.BinOp a op b pos) (Hv r ta tb):=by intro ae s σ H Q I h;exact wpAny_BinOp (Go ha hb I h fun v u s2 x y H2 I2 rx ry q=>ho ae s2 σ H2 x y v u Q I2 rx ry q)
theorem zH{op:UnaryOp}{r:V->Hp->VK->Prop}(ho:MK X (unaryOp op) r)(ha:PE X a ta):PE X (.UnaryOp op a pos) (LW r ta):=by intro ae s σ H Q I h;exact UnaryOp_ (d7 (ha ae s σ H _ I h) fun v s1⟨x,H1,I1,r1,q1⟩=>ho ae s1 σ H1 x v Q I1 r1 q1)
theorem JT{f:Value->Value->Sem Value}{C:Int->Int->Prop}{g:Int->Int->Int}(rule:∀(i j:Int)(t u:Tok)(s:Shared)(Q:Value->Shared->Prop)(E:Value->Shared->Prop),C i j->Q (.int (g i j) s.toks) {s with toks:=s.toks+1}->wpAny (model X.prog X.w) X.A (f (.int i t) (.int j u)) Q E s):
    l0 X f (rI C fun i j=>.int (g i j)):=by
  intro ae s σ H x y v u Q I rx ry h;obtain⟨i,j,rfl,rfl,hc,q⟩:=h;obtain⟨t,rfl⟩:=rx;obtain⟨t',rfl⟩:=ry;exact rule i j t t' s _ _ hc ⟨.int (g i j),H,I.tok _,⟨_,rfl⟩,q⟩
theorem JU{f:Value->Value->Sem Value}{g:Int->Int->Int}(rule:∀(i j:Int)(t u:Tok)(s:Shared)(Q:Value->Shared->Prop)(E:Value->Shared->Prop),Q (.int (g i j) s.toks) {s with toks:=s.toks+1}->wpAny (model X.prog X.w) X.A (f (.int i t) (.int j u)) Q E s):
    l0 X f (CJ fun i j=>.int (g i j)):=by
  intro ae s σ H x y v u Q I rx ry h;obtain⟨i,j,rfl,rfl,q⟩:=h;obtain⟨t,rfl⟩:=rx;obtain⟨t',rfl⟩:=ry;exact rule i j t t' s _ _ ⟨.int (g i j),H,I.tok _,⟨_,rfl⟩,q⟩
theorem Ev{f:Value->Value->Sem Value}{g:Int->Int->Bool}(rule:∀(i j:Int)(t u:Tok)(s:Shared)(Q:Value->Shared->Prop)(E:Value->Shared->Prop),Q (.bool (g i j)) s->wpAny (model X.prog X.w) X.A (f (.int i t) (.int j u)) Q E s):
    l0 X f (CJ fun i j=>.bl (g i j)):=by
  intro ae s σ H x y v u Q I rx ry h;obtain⟨i,j,rfl,rfl,q⟩:=h;obtain⟨t,rfl⟩:=rx;obtain⟨t',rfl⟩:=ry;exact rule i j t t' s _ _ ⟨.bl (g i j),H,I,rfl,q⟩
def DM(i j:Int):Prop:=0<=j/\j<=1000000/\i.natAbs<2^64
theorem Dg:l0 X (binaryOp .Add) (CJ fun i j=>.int (i+j)):=JU fun _ _ _ _ _ _ _ q=>add_int q
theorem Pb:l0 X (binaryOp .Sub) (CJ fun i j=>.int (i-j)):=JU fun _ _ _ _ _ _ _ q=>sub_int q
theorem tI:l0 X (binaryOp .Mod) (rI (fun _ j=>0<j) fun i j=>.int (i % j)):=JT fun i j _ _ _ _ _ hc q=>by have h1:(0:Int)<j:=hc;exact mod_int' (by omega) (by rw[Int.fmod_eq_emod_of_nonneg i (by omega)];exact q)
theorem Lc:l0 X (binaryOp .Pow) (rI DM fun i j=>.int (i^j.toNat)):=JT fun _ _ _ _ _ _ _ hc q=>pow_int_small hc.1 hc.2.1 hc.2.2 q
theorem Wh{f:Value->Sem Value}{g:Int->Int}(rule:∀(i:Int)(t:Tok)(s:Shared)(Q:Value->Shared->Prop)(E:Value->Shared->Prop),Q (.int (g i) s.toks) {s with toks:=s.toks+1}->wpAny (model X.prog X.w) X.A (f (.int i t)) Q E s):
    MK X f (rU fun i=>.int (g i)):=by
  intro ae s σ H x v Q I rx h;obtain⟨i,rfl,q⟩:=h;obtain⟨t,rfl⟩:=rx;exact rule i t s _ _ ⟨.int (g i),H,I.tok _,⟨_,rfl⟩,q⟩
theorem Mw:MK X (unaryOp .USub) (rU fun i=>.int (-i)):=Wh fun _ _ _ _ _ q=>neg_int q
end
def CM:V->V->Bool
 | .non,.non=>true| .non,.int _=>true| .int _,.non=>true| .non,.bl _=>true| .bl _,.non=>true| .non,.str _=>true| .str _,.non=>true
 | .int _,.int _=>true| .bl _,.bl _=>true| .str _,.str _=>true| .byt _,.byt _=>true
 | .int _,.str _=>true| .str _,.int _=>true| .bl _,.str _=>true| .str _,.bl _=>true
 |_,_=>false
def LH:R2:=fun x y H Q=>CM x y=true/\Q (.bl (decide (x=y))) H
def LJ:R2:=fun x y H Q=>CM x y=true/\Q (.bl (!decide (x=y))) H
theorem TL{i j:Int}:decide (V.int i=V.int j)=(i ==j):=by rw[eO];simp
theorem Ul{i j:Bool}:decide (V.bl i=V.bl j)=(i ==j):=by rw[eO];simp
theorem TM{i j:Str}:decide (V.str i=V.str j)=(i ==j):=by rw[eO];simp
theorem TN{i j:Array UInt8}:decide (V.byt i=V.byt j)=(i.toList ==j.toList):=by
 rw[eO];cases i
 cases j;simp
section
variable{X:Cx}{a b c:Expr}{ta tb tc:TE}{pos:Pos}
theorem my{ae:List (Addr×Obj)}{σ:St}{H:Hp}{s:Shared}{Q:VK}{k k':Bool}(I:Inv X ae σ H s)(q:Q (.bl k) H)(e:k=k'):EP X ae σ Q (.bool k') s:=by subst e;exact⟨.bl k,H,I,rfl,q⟩
theorem fh:l0 X (compareOp .Eq) LH:=by
 intro ae s σ H x y v u Q I rx ry h;obtain⟨hs,q⟩:=h;cases x with
 |non=>
  cases rx;cases y with
  |non=>cases ry;exact PySem.EqNone.eq_none_none (my I q (by simp))
  |bl j=>cases ry;exact PySem.EqNone.eq_none_bool (my I q (by simp))
  |int j=>obtain⟨t',rfl⟩:=ry;exact PySem.EqNone.eq_none_int (my I q (by simp))
  |str j=>obtain⟨t',rfl⟩:=ry;exact PySem.EqNone.eq_none_str (my I q (by simp))
  |_=>exact absurd (show false=true from hs) aG
 |bl i=>
  cases rx;cases y with
  |non=>cases ry;exact PySem.EqNone.eq_bool_none (my I q (by simp))
  |bl j=>cases ry;exact eq_bool (my I q Ul)
  |str j=>obtain⟨t',rfl⟩:=ry;exact PySem.EqMixed.eq_bool_str (my I q (by simp))
  |_=>exact absurd (show false=true from hs) aG
 |int i=>
  obtain⟨t,rfl⟩:=rx;cases y with
  |non=>cases ry;exact PySem.EqNone.eq_int_none (my I q (by simp))
  |int j=>obtain⟨t',rfl⟩:=ry;exact eq_int (my I q TL)
  |str j=>obtain⟨t',rfl⟩:=ry;exact PySem.EqMixed.eq_int_str (my I q (by simp))
  |_=>exact absurd (show false=true from hs) aG
 |str i=>
  obtain⟨t,rfl⟩:=rx;cases y with
  |non=>cases ry;exact PySem.EqNone.eq_str_none (my I q (by simp))
  |bl j=>cases ry;exact PySem.EqMixed.eq_str_bool (my I q (by simp))
  |int j=>obtain⟨t',rfl⟩:=ry;exact PySem.EqMixed.eq_str_int (my I q (by simp))
  |str j=>obtain⟨t',rfl⟩:=ry;exact eq_str (my I q TM)
  |_=>exact absurd (show false=true from hs) aG
 |byt i=>
  obtain⟨t,rfl⟩:=rx;cases y with
  |byt j=>obtain⟨t',rfl⟩:=ry;exact PySem.W.eq_bytes (my I q TN)
  |_=>exact absurd (show false=true from hs) aG
 |_=>cases y <;> exact absurd (show false=true from hs) aG
theorem w6:l0 X (compareOp .NotEq) LJ:=by
 intro ae s σ H x y v u Q I rx ry h;obtain⟨hs,q⟩:=h;cases x with
 |non=>
  cases rx;cases y with
  |non=>cases ry;exact PySem.EqNone.ne_none_none (my I q (by simp))
  |bl j=>cases ry;exact PySem.EqNone.ne_none_bool (my I q (by simp))
  |int j=>obtain⟨t',rfl⟩:=ry;exact PySem.EqNone.ne_none_int (my I q (by simp))
  |str j=>obtain⟨t',rfl⟩:=ry;exact PySem.EqNone.ne_none_str (my I q (by simp))
  |_=>exact absurd (show false=true from hs) aG
 |bl i=>
  cases rx;cases y with
  |non=>cases ry;exact PySem.EqNone.ne_bool_none (my I q (by simp))
  |bl j=>cases ry;exact ne_bool (my I q (congrArg not Ul))
  |str j=>obtain⟨t',rfl⟩:=ry;exact PySem.EqMixed.ne_bool_str (my I q (by simp))
  |_=>exact absurd (show false=true from hs) aG
 |int i=>
  obtain⟨t,rfl⟩:=rx;cases y with
  |non=>cases ry;exact PySem.EqNone.ne_int_none (my I q (by simp))
  |int j=>obtain⟨t',rfl⟩:=ry;exact ne_int (my I q (congrArg not TL))
  |str j=>obtain⟨t',rfl⟩:=ry;exact PySem.EqMixed.ne_int_str (my I q (by simp))
  |_=>exact absurd (show false=true from hs) aG
 |str i=>
  obtain⟨t,rfl⟩:=rx;cases y with
  |non=>cases ry;exact PySem.EqNone.ne_str_none (my I q (by simp))
  |bl j=>cases ry;exact PySem.EqMixed.ne_str_bool (my I q (by simp))
  |int j=>obtain⟨t',rfl⟩:=ry;exact PySem.EqMixed.ne_str_int (my I q (by simp))
  |str j=>obtain⟨t',rfl⟩:=ry;exact ne_str (my I q (congrArg not TM))
  |_=>exact absurd (show false=true from hs) aG
 |byt i=>
  obtain⟨t,rfl⟩:=rx;cases y with
  |byt j=>obtain⟨t',rfl⟩:=ry;exact PySem.W.ne_bytes (my I q (congrArg not TN))
  |_=>exact absurd (show false=true from hs) aG
 |_=>cases y <;> exact absurd (show false=true from hs) aG
theorem nW:l0 X (compareOp .Lt) (CJ fun i j=>.bl (decide (i<j))):=Ev fun _ _ _ _ _ _ _ q=>lt_int q
theorem fG:l0 X (compareOp .LtE) (CJ fun i j=>.bl (decide (i<=j))):=Ev fun _ _ _ _ _ _ _ q=>le_int q
theorem JV:l0 X (compareOp .Gt) (CJ fun i j=>.bl (decide (j<i))):=Ev fun _ _ _ _ _ _ _ q=>gt_int q
theorem Fp:l0 X (compareOp .GtE) (CJ fun i j=>.bl (decide (j<=i))):=Ev fun _ _ _ _ _ _ _ q=>ge_int q
theorem Um:l0 X (compareOp .Is) (fun x y H Q=>y= .non/\Q (.bl (decide (x= .non))) H):=by
 intro ae s σ H x y v u Q I rx ry h;obtain⟨rfl,q⟩:=h;cases ry
 refine is_none_gen (my I q ?_);cases x <;> first
  |(cases rx;rfl)
  |(obtain⟨t,rfl⟩:=rx;rfl)
theorem IA:l0 X (compareOp .IsNot) (fun x y H Q=>y= .non/\Q (.bl (!decide (x= .non))) H):=by
 intro ae s σ H x y v u Q I rx ry h;obtain⟨rfl,q⟩:=h;cases ry
 refine isnot_none_gen (my I q ?_);cases x <;> first
  |(cases rx;rfl)
  |(obtain⟨t,rfl⟩:=rx;rfl)
theorem iq(b:Expr){op:CmpOp}(h:op≠.In:=by decide)(h2:op≠.NotIn:=by decide):behindInMarks op b=false:=by
 have e1:(op ==CmpOp.In)=false:=by cases op <;> first|rfl|exact absurd rfl h
 have e2:(op ==CmpOp.NotIn)=false:=by cases op <;> first|rfl|exact absurd rfl h2
 cases b <;> simp[behindInMarks,e1,e2]
theorem K1{op:CmpOp}{r:R2}(ho:l0 X (compareOp op) r)(ha:PE X a ta)(hb:PE X b tb)(hm:behindInMarks op b=false):PE X (.Compare a [op] [b] pos) (Hv r ta tb):=by intro ae s σ H Q I h;exact wpAny_Compare1 (Go ha hb I h fun v u s2 x y H2 I2 rx ry q=>ho ae s2 σ H2 x y v u Q I2 rx ry q) hm
def xA(t:TE):TT:=fun σ H Q=>t σ H fun x H'=>∃k,x= .bl k/\Q k H'
theorem iw{op:CmpOp}{r:R2}(ho:l0 X (compareOp op) r)(ha:PE X a ta)(hb:PE X b tb)(hm:behindInMarks op b=false):PT X (.Compare a [op] [b] pos) (xA (Hv r ta tb)):=by
 intro ae s σ H Q I h;refine wpAny_isTrue_Compare1 (d7 (ha ae s σ H _ I h) fun v s1⟨x,H1,I1,r1,q1⟩=>d7 (hb ae s1 σ H1 _ I1 q1) fun u s2⟨y,H2,I2,r2,q2⟩=>
  d7 (ho ae s2 σ H2 x y v u _ I2 r1 r2 q2) fun c s3⟨z,H3,I3,r3,k,e,q3⟩=>?_) hm;subst e;cases r3
 exact wpAny_truthy_bool ⟨H3,I3,q3⟩
def sV(r r':R2)(ta tb tc:TE):TE:=fun σ H Q=>ta σ H fun x H1=>tb σ H1 fun y H2=>r x y H2 fun z H3=>∃k,z= .bl k/\
 (if k=true then tc σ H3 fun w' H4=>r' y w' H4 Q else Q (.bl false) H3)
theorem KY{op G5:CmpOp}{r r':R2}(ho:l0 X (compareOp op) r)(AB:l0 X (compareOp G5) r')(ha:PE X a ta)(hb:PE X b tb)(hc:PE X c tc)(hm:lastMarks [op,G5] [b,c]=false:=by with_unfolding_all rfl):PE X (.Compare a [op,G5] [b,c] pos) (sV r r' ta tb tc):=by
  intro ae s σ H Q I h;refine Compare_chain (d7 (ha ae s σ H _ I h) fun v s1⟨x,H1,I1,r1,q1⟩=>chain_link (d7 (hb ae s1 σ H1 _ I1 q1) fun u s2⟨y,H2,I2,r2,q2⟩=>
    d7 (ho ae s2 σ H2 x y v u _ I2 r1 r2 q2) fun d s3⟨z,H3,I3,r3,k,e,q3⟩=>?_)) hm;subst e;cases r3
  refine wpAny_truthy_bool ?_;cases k with
  |false=>exact ite_ff ⟨.bl false,H3,I3,rfl,q3⟩
  |true=>exact ite_tt (chain_last (d7 (hc ae s3 σ H3 _ I3 q3) fun w' s4⟨z',H4,I4,r4,q4⟩=>AB ae s4 σ H4 y z' u w' Q I4 r2 r4 q4))
theorem Ir{op G5:CmpOp}{r r':R2}(ho:l0 X (compareOp op) r)(AB:l0 X (compareOp G5) r')(ha:PE X a ta)(hb:PE X b tb)(hc:PE X c tc)(hm:lastMarks [op,G5] [b,c]=false:=by with_unfolding_all rfl):PT X (.Compare a [op,G5] [b,c] pos) (xA (sV r r' ta tb tc)):=by
  intro ae s σ H Q I h;refine isTrue_chain (d7 (ha ae s σ H _ I h) fun v s1⟨x,H1,I1,r1,q1⟩=>test_link (d7 (hb ae s1 σ H1 _ I1 q1) fun u s2⟨y,H2,I2,r2,q2⟩=>
    d7 (ho ae s2 σ H2 x y v u _ I2 r1 r2 q2) fun d s3⟨z,H3,I3,r3,k,e,q3⟩=>?_)) hm;subst e;cases r3
  refine wpAny_truthy_bool ?_;cases k with
  |false=>
    obtain⟨k',e',q'⟩:=q3;cases e'
    exact ite_ff ⟨H3,I3,q'⟩
  |true=>
    refine ite_tt (test_last (d7 (hc ae s3 σ H3 _ I3 q3) fun w' s4⟨z',H4,I4,r4,q4⟩=>d7 (AB ae s4 σ H4 y z' u w' _ I4 r2 r4 q4) fun d' s5⟨z2,H5,I5,r5,k2,e2,q5⟩=>?_));subst e2;cases r5
    exact wpAny_truthy_bool ⟨H5,I5,q5⟩
def D6(K:aa)(x:V)(H:Hp)(k:Bool):Prop:=
 match x with
 | .non=>k=false
 | .bl b=>k=b
 | .int i=>k=(i !=0)
 | .str y=>y.length<=sizeLine/\k=((y.length:Int) !=0)
 | .byt y=>y.size<=sizeLine/\k=((y.size:Int) !=0)
 | .ref p=>(∃xs,iO K H p xs/\k= !xs.isEmpty)\/(∃xs,p9 K H p xs/\k= !xs.isEmpty)\/∃aI,H p=some (.dK aI)/\k= !aI.isEmpty
 |_=>False
theorem Yi{κ:Type}{aI:List (κ×V)}{vs:List (κ×Value)}(r:KV aI vs):(!vs.isEmpty)= !aI.isEmpty:=by cases r <;> rfl
theorem Sc{xs:List V}{dJ:List Value}(r:bP xs dJ):(!dJ.toArray.isEmpty)= !xs.isEmpty:=by cases r <;> simp
theorem IE:(sizeLine:Nat)<2^63:=by rw[sizeLine_eq];decide
theorem zyb:MJ X (fun x H Q=>∃k,D6 X.K x H k/\Q k H):=by
 intro ae s σ H x v Q I rx h;obtain⟨k,e,q⟩:=h;have hl:=IE;have hs:sizeLine=16777216:=sizeLine_eq;cases x with
 |non=>
  cases rx;have e':k=false:=e
  subst e';exact truthy_none ⟨H,I,q⟩
 |bl b=>
  cases rx;have e':k=b:=e
  subst e';exact wpAny_truthy_bool ⟨H,I,q⟩
 |int i=>
  obtain⟨t,rfl⟩:=rx;have e':k=(i !=0):=e;subst e';exact PySem.P.truthy_int ⟨H,I,q⟩
 |str y=>
  obtain⟨t,rfl⟩:=rx;obtain⟨hy,e'⟩:y.length<=sizeLine/\k=((y.length:Int) !=0):=e;subst e';exact PySem.P.truthy_str (by omega) ⟨H,I.tok _,q⟩
 |byt y=>
  obtain⟨t,rfl⟩:=rx;obtain⟨hy,e'⟩:y.size<=sizeLine/\k=((y.size:Int) !=0):=e;subst e';exact PySem.W.truthy_bytes (by omega) ⟨H,I.tok _,q⟩
 |ref p=>
  cases rx;have e':(∃xs,iO X.K H p xs/\k= !xs.isEmpty)\/(∃xs,p9 X.K H p xs/\k= !xs.isEmpty)\/∃aI,H p=some (.dK aI)/\k= !aI.isEmpty:=e
  rcases e' with⟨xs,hx,e'⟩ |⟨xs,hx,e'⟩ |⟨aI,hx,e'⟩
  ·subst e';obtain⟨dJ,r,pl,hz⟩:=I.list hx;have gh:=r.length;exact wpAny_truthy_list pl.isList (by simp only[aP];omega) ⟨H,I.tok _,by rw[Sc r];exact q⟩
  ·subst e';obtain⟨dJ,r,pl,hz⟩:=I.tuple hx;have gh:=r.length;exact truthy_tuple pl (by simp only[aP];omega) ⟨H,I.tok _,by rw[Sc r];exact q⟩
  ·subst e';obtain⟨hz,hS,vs,r,m⟩:aI.length<=sizeLine/\(p ==sysModules)=false/\∃vs,KV aI vs/\s.heap.DictOf (qZ X.prog X.w) p vs:=I.cu p _ hx;have gh:aI.length=vs.length:=Paired.length r;exact wpAny_truthy_dict hS m (by omega) ⟨H,I.tok _,by rw[Yi r];exact q⟩
 |_=>exact(show False from e).elim
theorem Ze(ha:PE X a ta)(he:∀mq,isTrue a X.env mq=(do let v <-mq;standAt a.pos;holding [v] (truthy v))):
    PT X a (fun σ H Q=>ta σ H fun x H'=>∃k,D6 X.K x H' k/\Q k H'):=by
  intro ae s σ H Q I h;exact isTrue_plain (d7 (ha ae s σ H _ I h) fun v s1⟨x,H1,I1,r1,q1⟩=>zyb ae s1 σ H1 x v Q I1 r1 q1) (he _)
theorem Ow:l0 X (binaryOp .Add) (fun x y H Q=>∃i j,x= .str i/\y= .str j/\i.length+j.length<=sizeLine/\Q (.str (i++j)) H):=by intro ae s σ H x y v u Q I rx ry h;obtain⟨i,j,rfl,rfl,hz,q⟩:=h;obtain⟨t,rfl⟩:=rx;obtain⟨t',rfl⟩:=ry;exact add_str (fun t' tk=>⟨.str (i++j),H,I.tok _,⟨_,rfl⟩,q⟩) hz
theorem vals1{x:V}{us:List Value}(r:bP [x] us):∃u,us=[u]/\RelV x u:=by
 cases r with
 |cons r1 r2=>cases r2;exact⟨_,rfl,r1⟩
theorem vals2{x y:V}{us:List Value}(r:bP [x,y] us):∃u w',us=[u,w']/\RelV x u/\RelV y w':=by
 cases r with
 |cons r1 r2=>
  cases r2 with
  |cons r3 r4=>cases r4;exact⟨_,_,rfl,r1,r3⟩
theorem OJ:kF X (.builtin "abs") (fun xs H Q=>∃i,xs=[.int i]/\Q (.int (if i<0 then -i else i)) H):=by intro ae s σ H xs us Q I r h;obtain⟨i,rfl,q⟩:=h;obtain⟨u,rfl,t,rfl⟩:=vals1 r;exact call_abs_int fun u tk=>⟨.int (if i<0 then -i else i),H,I.tok _,⟨_,rfl⟩,q⟩
theorem YL(hc:X.calm=true):kF X (.builtin "max") (fun xs H Q=>∃i j,xs=[.int i,.int j]/\Q (.int (if j > i then j else i)) H):=by
 intro ae s σ H xs us Q I r h;obtain⟨i,j,rfl,q⟩:=h;obtain⟨u,w',rfl,⟨t,rfl⟩,⟨t',rfl⟩⟩:=vals2 r;refine max_two_ints (I.ok.hd hc) fun h' tk k=>⟨_,H,I.kept k,?_,q⟩;by_cases hj:j > i
 ·rw[if_pos hj,if_pos hj];exact⟨_,rfl⟩
 ·rw[if_neg hj,if_neg hj];exact⟨_,rfl⟩
end
structure x9(h:Heap)(x dx C:Addr)(mA:Str->Option Value):Prop where
 obj:h.get? x=some (eL C dx)
 ns:h.Ns1 dx mA
 ne:dx≠x
theorem Sl{h:Heap}{dx:Addr}{mA:Str->Option Value}(n:h.Ns1 dx mA):∃od,h.get? dx=some od/\∀name,jb name od=some (mA name):=by
 obtain⟨o,es,ep,ho,hd,hk,_,hm⟩:=n;refine⟨o,ho,fun name=>?_⟩;have e:=hm name;unfold nsFind findBy at e;rw[<-Array.find?_toList]at e;unfold jb;rw[hd];dsimp only;split
 ·rename_i y q
  rw[q]at e;exact congrArg some e
 ·rename_i q
  rw[q]at e;have a:es.toList.any (·.refKey)=false:=by rw[List.any_eq_false];intro y hy;obtain⟨z,t,GD⟩:=hk y (Array.mem_toList_iff.mp hy);simp[DictEntry.refKey,GD]
  have a':¬es.toList.any (·.refKey)=true:=by rw[a];exact aG
  rw[if_neg a'];exact congrArg some e
theorem x9.look{h:Heap}{x dx C:Addr}{mA:Str->Option Value}(I:x9 h x dx C mA):∃od,eA h x (eL C dx) C (some od)/\∀name,jb name od=some (mA name):=
 let⟨od,ho,hl⟩:=Sl I.ns
 ⟨od,⟨I.obj,rfl,rfl,ho⟩,hl⟩
section
variable{prog:Program}{w:World}{A:Around}{E:Value->Shared->Prop}{s:Shared}{K:aa}{x dx C f:Addr}{mA:Str->Option Value}{name:Str}{v:Value}
theorem Z4{yj:Bool}{Q:Value->Shared->Prop}(X:K.In s.heap)(I:x9 s.heap x dx C mA)(hg:jX K C name=true)(hh:fE K C=true)(ha:ai K (.ref C) name=some none)(hv:mA name=some v)(VP:BP v=true)(h:Q v {s with toks:=s.toks+1}):
    wpAny (model prog w) A (getAttr (.ref x) name yj) Q E s:=by
  obtain⟨od,J,hl⟩:=I.look;exact PySem.W.get_value X J (mO hg).1 (PySem.W.findObj_own hh ha rfl (by rw[hl,hv])) VP h
theorem Zf{pl:Sem Bool}{Q:Value×List Value->Shared->Prop}(X:K.In s.heap)(I:x9 s.heap x dx C mA)(hg:jX K C name=true)(hf:ai K (.ref C) name=some (some (.ref f)))(ht:e8 K (.ref f)=true)(hv:mA name=none)(h:Q (.ref f,[.ref x]) s):
    wpAny (model prog w) A (getMethod (.ref x) name pl) Q E s:=by
  obtain⟨od,J,hl⟩:=I.look;exact PySem.W.method_fn X J (mO hg).1 (mO hg).2 hf (beq_iff_eq.mp ht) (by show(jb name od).map (·.isSome)=some false;rw[hl,hv];rfl) h
theorem Z5{ns:List Str}{Q:Unit->Shared->Prop}(X:K.In s.heap)(I:x9 s.heap x dx C mA)(hs:ai K (.ref C) "__setattr__"=some (some (.builtin "object.__setattr__")))(hp:Bj K C=true)(ht:bX K C name=some none)(hh:fE K C=true)(hw:yd mA ns)(hsz:ns.length<=sizeLine)(h:∀h',x9 h' x dx C (fun y=>if y=name then some v else mA y)->Heap.SameBut dx s.heap h'->Q () {s with heap:=h',toks:=s.toks+2}):
    wpAny (model prog w) A (setAttr (.ref x) name v) Q E s:=by
  obtain⟨od,J,hl⟩:=I.look;refine PySem.W.set_plain X J hs (PySem.W.osa_open (s:={s with toks:=s.toks+1}) (r:=none) X J hp ht fun b=>?_);obtain⟨cd,hc,M6⟩:=BO hh;have hx:s.heap.get? x=some ⟨.ref C,some dx,.plain,#[]⟩:=I.obj;refine wpAny_bind (wpAny_pure (wpAny_bind (wpAny_bind (wpAny_loadPart hx (wpAny_bind (PySem.W.Looks.here (s:={s with toks:=s.toks+1}) (PySem.W.looks_clsIn X hc) ?_))))));rw[M6];refine wpAny_pure (a:=some dx) (wpAny_bind (wpAny_pure (wpAny_bind ?_)));refine wpAny_nsSet1 (s:={s with toks:=s.toks+1}) I.ns fun h' Lz DA=>?_;obtain⟨oD,Px,Pw,Jw,Jp,Jo⟩:=Lz.count (PySem.Within.cons name v hw);refine wpAny_bind (wpAny_lookBehind Jw (by rw[Jp];exact pastItsLine_dict (bf Jo (by rw[bG];omega))) ?_);exact wpAny_pure (h _ ⟨(DA.2 _ (bV I.ne)).trans I.obj,Lz,I.ne⟩ DA)
theorem Zg{R:Result->Shared->Prop}{vs:List Value}{kw:List (Str×Value)}(X:K.In s.heap)(hm:gb K C=true)(hi:ai K (.ref C) "__init__"=some (some (.ref f)))(hf:eE K (.ref f)=some (.type "function"))(h:codeAny (model prog w) (A.under (.builtin "type.__call__" ⟨.ref C::vs,kw⟩)) (.call (.ref f) ⟨.ref (s.heap.objs.size+1)::vs,kw⟩) (PySem.W.InitBack (s.heap.objs.size+1) R)
      {s with heap:=(s.heap.push dN).push (eL C s.heap.objs.size)}):
    codeAny (model prog w) A (.call (.ref C) ⟨vs,kw⟩) R s:=by
  obtain⟨hh,g,d,t,os⟩:=s;exact PySem.W.make_core (PySem.W.makes_of X hm) (yc X hi) (fun self=>Dm X self hf) (.inl rfl) h
end
def ak(f:Str)(v:V):List (Str×V)->List (Str×V)
 |[]=>[(f,v)]
 |(g,x)::r=>if g=f then(g,v)::r else(g,x)::ak f v r
theorem mY (f g:Str) (v:V):∀ fs:List (Str×V),(ak f v fs).lookup g=if g=f then some v else fs.lookup g
 | []=>by
  show gG g [(f,v)] = _
  by_cases h:g=f
  ·have hb:(g == f)=true:=beq_iff_eq.mpr h
   simp only [gG,hb,if_pos h]
  ·have hb:(g == f)=false:=beq_eq_false_iff_ne.mpr h
   simp only [gG,hb,if_neg h]
 | (k,x) :: r=>by
  have ih:=mY f g v r
  rw [show ak f v ((k,x) :: r)=(if k=f then (k,v) :: r else (k,x) :: ak f v r) from rfl]
  by_cases hk:k=f
  ·rw [if_pos hk]
   by_cases h:g=k
   ·have hb:(g == k)=true:=beq_iff_eq.mpr h
    simp only [gG,hb,if_pos (h.trans hk)]
   ·have hb:(g == k)=false:=beq_eq_false_iff_ne.mpr h
    simp only [gG,hb,if_neg (fun e:g=f=>h (e.trans hk.symm))]
  ·rw [if_neg hk]
   by_cases h:g=k
   ·have hb:(g == k)=true:=beq_iff_eq.mpr h
    simp only [gG,hb,if_neg (fun e:g=f=>hk (h.symm.trans e))]
   ·have hb:(g == k)=false:=beq_eq_false_iff_ne.mpr h
    simp only [gG,hb]
    exact ih
theorem OB (f:Str) (v:V):∀ fs:List (Str×V),f∈(ak f v fs).map (·.1)/\∀ g,g∈fs.map (·.1)->g∈(ak f v fs).map (·.1)
 | []=>⟨by simp [ak],fun g h=>by simp at h⟩
 | (k,x) :: r=>by
  obtain ⟨i1,i2⟩:=OB f v r
  rw [show ak f v ((k,x) :: r)=(if k=f then (k,v) :: r else (k,x) :: ak f v r) from rfl]
  by_cases hk:k=f
  ·rw [if_pos hk]
   subst hk
   exact ⟨by simp,fun g h=>by simpa using h⟩
  ·rw [if_neg hk]
   refine ⟨?_,fun g h=>?_⟩
   ·rw [aM]
    exact af _ i1
   ·rw [aM] at h ⊢
    rcases ah.mp h with e | e
    ·exact ah.mpr (.inl e)
    ·exact af _ (i2 g e)
theorem RY(f:Str)(v:V):∀fs:List (Str×V),(ak f v fs).length<=fs.length+1
 |[]=>by simp[ak]
 |(k,x)::r=>by
  have ih:=RY f v r;rw[show ak f v ((k,x)::r)=(if k=f then(k,v)::r else(k,x)::ak f v r)from rfl];by_cases hk:k=f
  ·rw[if_pos hk,bG,bG];omega
  ·rw[if_neg hk,bG,bG];omega
theorem jn.some_of{v:V}{o:Option Value}(r:jn (some v) o):∃u,o=some u/\RelV v u:=by
 cases o with
 |none=>exact(show False from r).elim
 |some u=>exact⟨u,rfl,r⟩
theorem jn.none_of{o:Option Value}(r:jn none o):o=none:=by
 cases o with
 |none=>rfl
 |some u=>exact(show False from r).elim
theorem Sm{v:V}{u:Value}(r:RelV v u):BP u=true:=by
 cases v with
 |non=>cases(show u=Value.none from r);rfl
 |bl b=>cases(show u=Value.bool b from r);rfl
 |int i=>obtain⟨t,e⟩:=(show ∃t,u=Value.int i t from r);cases e;rfl
 |str x=>obtain⟨t,e⟩:=(show ∃t,u=Value.str x t from r);cases e;rfl
 |byt b=>obtain⟨t,e⟩:=(show ∃t,u=Value.bytes b t from r);cases e;rfl
 |flt b=>obtain⟨t,e⟩:=(show ∃t,u=Value.float b t from r);cases e;rfl
 |ref a=>cases(show u=Value.ref a from r);rfl
 |ty n=>cases(show u=Value.type n from r);rfl
section
variable{P:Program}{w:World}{H H':Hp}{h h':Heap}{a C dx:Addr}{fs yo:List (Str×V)}
theorem OW(cu:iY P w H h)(e:H a=some (.ins C dx fs)):∃mA,x9 h a dx C mA/\(∀f,jn (fs.lookup f) (mA f))/\yd mA (fs.map (·.1))/\fs.length<=1000/\H dx=some (.own a):=by obtain⟨d,z,ne,ob,mA,n,r,q⟩:=(show eT P w H h a (.ins C dx fs)from cu a _ e);exact⟨mA,⟨ob,n,ne⟩,r,q,z,d⟩
end
structure uW(K:aa)(C:Addr):Prop where
 pg:jX K C Str.empty=true
 hd:fE K C=true
 po:Bj K C=true
 sa:ai K (.ref C) "__setattr__"=some (some (.builtin "object.__setattr__"))
theorem uW.get{K:aa}{C:Addr}(c:uW K C)(f:Str):jX K C f=true:=c.pg
def bK(K:aa)(C:Addr)(f:Str):Prop:=ai K (.ref C) f=some none
theorem bK.KN{K:aa}{C:Addr}{f:Str}(n:bK K C f):bX K C f=some none:=by unfold bX;rw[show ai K (.ref C) f=some none from n];rfl
structure Gg(K:aa)(C:Addr)(m:Str)(f:Addr):Prop where
 at_:ai K (.ref C) m=some (some (.ref f))
 fn:e8 K (.ref f)=true
 kp:ay K (.ref f)=true
section
variable{X:Cx}{ae:List (Addr×Obj)}{σ:St}{H:Hp}{s:Shared}{a C dx:Addr}{fs:List (Str×V)}{f:Str}{v:V}{A:Around}{E:Value->Shared->Prop}
theorem Yj{b:Bool}{Q:Value->Shared->Prop}(I:Inv X ae σ H s)(e:H a=some (.ins C dx fs))(c:uW X.K C)(n:bK X.K C f)(l:fs.lookup f=some v)(h:∀u s',Inv X ae σ H s'->RelV v u->Q u s'):wpAny (model X.prog X.w) A (getAttr (.ref a) f b) Q E s:=by
  obtain⟨mA,O,r,_,_,_⟩:=OW I.cu e;obtain⟨u,hu,ru⟩:=jn.some_of (v:=v) (o:=mA f) (by rw[<-l];exact r f);exact Z4 I.l7 O (c.get f) c.hd n hu (Sm ru) (h u _ (I.tok _) ru)
theorem Sd{m:Str}{g:Addr}{pl:Sem Bool}{Q:Value×List Value->Shared->Prop}(I:Inv X ae σ H s)(e:H a=some (.ins C dx fs))(c:uW X.K C)(k:Gg X.K C m g)(l:fs.lookup m=none)(h:Q (.ref g,[.ref a]) s):wpAny (model X.prog X.w) A (getMethod (.ref a) m pl) Q E s:=by
  obtain⟨mA,O,r,_,_,_⟩:=OW I.cu e;have hn:mA m=none:=jn.none_of (by rw[<-l];exact r m);exact Zf I.l7 O (c.get m) k.at_ k.fn hn h
theorem Yk {y:V} {u:Value} {Q:Unit->Shared->Prop} (I:Inv X ae σ H s) (e:H a=some (.ins C dx fs)) (c:uW X.K C) (n:bK X.K C f) (hl:fs.length<1000) (ry:RelV y u)
    (h:∀ s',Inv X ae σ (aB H a (.ins C dx (ak f y fs))) s'->Q () s'):wpAny (model X.prog X.w) A (setAttr (.ref a) f u) Q E s:=by
  obtain ⟨mA,O,r,wi,_,ho⟩:=OW I.cu e
  have hz:(fs.map (·.1)).length<=sizeLine:=by rw [aj,sizeLine_eq]; omega
  refine Z5 I.l7 O c.sa c.po n.KN c.hd wi hz fun h' O' sb=>h _ ?_
  have hd:∃ o,h'.get? dx=some o:=let ⟨o,_,_,e',_⟩:=O'.ns; ⟨o,e'⟩
  refine I.write (x:=a) (e:=dx) (by rw [e]; exact bB) (.inr ho) (fun b q hb z=>(sb.2 b hb).trans z) hd ?_
  refine ⟨by rw [bw O.ne]; exact ho,?_,O.ne,O'.obj,_,O'.ns,fun g=>?_,fun g hg=>?_⟩
  · have:=RY f y fs; omega
  · show jn ((ak f y fs).lookup g) (if g=f then some u else mA g)
    rw [mY]
    by_cases q:g=f
    · rw [if_pos q,if_pos q]; exact ry
    · rw [if_neg q,if_neg q]; exact r g
  · by_cases q:g=f
    · rw [q]; exact (OB f y fs).1
    · refine (OB f y fs).2 g (wi g fun z=>hg ?_)
      show (if g=f then some u else mA g)=none
      rw [if_neg q]; exact z
theorem Inv.made(I:Inv X ae σ H s):Inv X ae σ (aB (aB H s.heap.objs.size (.own (s.heap.objs.size+1))) (s.heap.objs.size+1) (.ins C s.heap.objs.size []))
    {s with heap:=(s.heap.push dN).push (eL C s.heap.objs.size)}:=by
  have e1:(s.heap.push dN).get? s.heap.objs.size=some dN:=Heap.get?_push_size s.heap rfl;have e2:((s.heap.push dN).push (eL C s.heap.objs.size)).get? (s.heap.objs.size+1)=some (eL C s.heap.objs.size):=by
    have:=Heap.get?_push_size (s.heap.push dN) (o:=eL C s.heap.objs.size) rfl
    rwa [Heap.size_push]at this
  have e3:(s.heap.push dN).Ns s.heap.objs.size (fun _=>none):=⟨dN,#[],_,e1,rfl,(fun e he=>absurd he (by simp)),fun _=>rfl⟩;have I1:=I.laid (a:=s.heap.objs.size) (o:=.own (s.heap.objs.size+1)) (h':=s.heap.push dN) (t':=s.toks) (fun b u q=>Heap.get?_push_of_some _ q) (ao _) ⟨_,e1⟩;refine I1.laid (a:=s.heap.objs.size+1) (o:=.ins C s.heap.objs.size []) (t':=s.toks) (fun b u q=>Heap.get?_push_of_some _ q) (Nat.le_of_eq (Heap.size_push _ _)) ?_;have ne:s.heap.objs.size≠s.heap.objs.size+1:=aJ (Gh _);refine⟨by rw[bw ne,bh],di _,ne,e2,fun _=>none,(Heap.Ns1.of_empty e3).at fun o q=>Heap.get?_push_of_some _ q,fun _=>bB,fun y hy=>absurd rfl hy⟩
theorem TQ{prog:Program}{w:World}{env:Env}{e:Expr}{f:Str}{pos:Pos}{s:Shared}{Q:Value->Shared->Prop}(hb:attributeBase e f env (eval e env)=eval e env)(h:wpAny (model prog w) A (eval e env) (fun o s₁=>wpAny (model prog w) A (getAttr o f true) Q E s₁) E s):wpAny (model prog w) A (eval (.Attribute e f pos) env) Q E s:=
  Attribute_any_ h (by rw[arm_eval_Attribute,hb])
end
def Hu(K:aa)(ta:TE)(f:Str):TE:=fun σ H Q=>ta σ H fun x H1=>∃a C dx fs v,x= .ref a/\H1 a=some (.ins C dx fs)/\uW K C/\bK K C f/\fs.lookup f=some v/\Q v H1
def Kd(K:aa)(ta tv:TE)(f:Str):TS:=fun D σ H=>tv σ H fun y H1=>ta σ H1 fun x H2=>∃a C dx fs,x= .ref a/\H2 a=some (.ins C dx fs)/\uW K C/\bK K C f/\fs.length<1000/\
 D.nx σ (aB H2 a (.ins C dx (ak f y fs)))
section
variable{X:Cx}{o e value:Expr}{f:Str}{pos nY y9:Pos}{ta tv:TE}
theorem je(he:PE X e ta)(hb:attributeBase e f X.env (eval e X.env)=eval e X.env):PE X (.Attribute e f pos) (Hu X.K ta f):=by intro ae s σ H Q I h;refine TQ hb (d7 (he ae s σ H _ I h) fun u s1⟨x,H1,I1,rx,a,C,dx,fs,v,ex,ea,c,n,l,q⟩=>?_);subst ex;obtain rfl:u=Value.ref a:=rx;exact Yj I1 ea c n l fun u' s2 I2 ru=>⟨v,H1,I2,ru,q⟩
theorem mz(ha:PE X o ta)(hv:PE X value tv)(hs:swapsWith value (some (.Attribute o f nY)) pos.line X.env=pure false):PS X (.Assign [.Attribute o f nY] value pos) (Kd X.K ta tv f):=by intro ae s σ H D I h;refine plainObj_wpAny_Assign_Attribute (d7 (hv ae s σ H _ I h) fun u s1⟨y,H1,I1,ry,q⟩=>d7 (ha ae s1 σ H1 _ I1 q) fun ov s2⟨x,H2,I2,rx,a,C,dx,fs,ex,ea,c,n,l,q2⟩=>?_) hs;subst ex;obtain rfl:ov=Value.ref a:=rx;exact Yk I2 ea c n l ry fun s3 I3=>⟨σ,_,I3,q2⟩
end
section
variable{X:Cx}{ae:List (Addr×Obj)}{σ:St}{H:Hp}{s:Shared}{A:Around}{E:Value->Shared->Prop}{Q:Value->Shared->Prop}{c:Value}{b:Bool}
end
structure e9(k:Nat)(A:Around):Prop where
 hd:A.handled=none
 dp:A.depth+3*k+5<recursionLimit
 un:A.units+16*k+200<cLine
theorem e9.mono{j k:Nat}{A:Around}(r:e9 k A)(h:j<=k):e9 j A:=⟨r.hd,by have:=r.dp;omega,by have:=r.un;omega⟩
theorem e9.deeper{k:Nat}{A:Around}(r:e9 (k+1) A)(env:Env):e9 k (A.deeper env):=
 ⟨r.hd,by have:=r.dp;show A.depth+1+3*k+5 < _;omega,by have:=r.un;show A.units+3+16*k+200 < _;omega⟩
theorem Yl{A:Around}{C:Addr}{us:List Value}{kw:List (Str×Value)}:(A.under (.builtin "type.__call__" ⟨.ref C::us,kw⟩)).depth=A.depth+1:=by first|rfl|simp[Around.under,Code.weight,Code.isCreation,Code.isGuard,Code.isCaller,Code.frames,Code.isFrame,guardIds]
theorem Ym{A:Around}{C:Addr}{us:List Value}{kw:List (Str×Value)}:(A.under (.builtin "type.__call__" ⟨.ref C::us,kw⟩)).units=A.units+1:=by first|rfl|simp[Around.under,Code.cUnits,Code.frames,Code.isFrame]
theorem e9.make{k:Nat}{A:Around}(r:e9 (k+1) A)(C:Addr)(us:List Value)(kw:List (Str×Value)):e9 k (A.under (.builtin "type.__call__" ⟨.ref C::us,kw⟩)):=
 ⟨r.hd,by have:=r.dp;rw[Yl];omega,by have:=r.un;rw[Ym];omega⟩
theorem e9.depth{k:Nat}{A:Around}(r:e9 k A):A.depth<recursionLimit:=by have:=r.dp;omega
theorem e9.units{k:Nat}{A:Around}(r:e9 k A):A.units+64<cLine:=by have:=r.un;omega
def A9:TA:=fun _ H Q=>Q [] H
def zY(ta:TE)(tr:TA):TA:=fun σ H Q=>ta σ H fun x H1=>tr σ H1 fun xs H2=>Q (x::xs) H2
section
variable{X:Cx}{e:Expr}{es:List Expr}{te:TE}{t:TA}{pos:Pos}
theorem aO:PA X [] A9:=fun _ _ _ _ H Q I h=>Calls.spliced_nil ⟨[],H,I,.nil,h⟩
theorem az(ha:PE X e te)(hr:PA X es t)(hs:starEach (e::es) X.env=(false,eval e X.env)::starEach es X.env:=by rfl):PA X (e::es) (zY te t):=by intro pos ae s σ H Q I h;rw[hs];show wpAny _ _ (spliced ((false,eval e X.env)::backTo pos (starEach es X.env))) _ _ s;refine Calls.spliced_cons (d7 (ha ae s σ H _ I h) fun u s1⟨x,H1,I1,r1,q1⟩=>?_);exact d7 (hr pos ae s1 σ H1 _ I1 q1) fun us s2⟨xs,H2,I2,r2,q2⟩=>⟨x::xs,H2,I2,.cons r1 r2,q2⟩
def EJ(t:TA):TE:=fun σ H Q=>t σ H fun xs H1=>xs.length<=sizeLine/\∀p,H1 p=none->Q (.ref p) (aB H1 p (.tup xs))
def EG(t:TA):TE:=fun σ H Q=>t σ H fun xs H1=>xs.length<=sizeLine/\∀p,H1 p=none->Q (.ref p) (aB H1 p (.lst xs))
theorem jH{x1}(h:PA X es t):PE X (.Tuple es x1 pos) (EJ t):=by intro ae s σ H Q I hq;refine wpAny_Tuple_spliced (d7 (h pos ae s σ H _ I hq) fun us s1⟨xs,H1,I1,r,z,q⟩=>⟨by rw[<-r.length];exact z,?_⟩);have hf:H1 s1.heap.objs.size=none:=I1.cu.fresh (ao _);refine⟨.ref s1.heap.objs.size,aB H1 s1.heap.objs.size (.tup xs),I1.laid (t':=s1.toks) (fun b u e=>Heap.get?_push_of_some _ e) (ao _) ?_,rfl,q _ hf⟩;exact⟨z,us,r,⟨_,Heap.get?_push_size _ rfl,rfl,_,rfl⟩⟩
theorem qQ(h:PA X es t):PE X (.List es pos) (EG t):=by intro ae s σ H Q I hq;refine wpAny_List_spliced (d7 (h pos ae s σ H _ I hq) fun us s1⟨xs,H1,I1,r,z,q⟩=>⟨by rw[<-r.length];exact z,?_⟩);have hf:H1 s1.heap.objs.size=none:=I1.cu.fresh (ao _);refine⟨.ref s1.heap.objs.size,aB H1 s1.heap.objs.size (.lst xs),I1.laid (t':=s1.toks) (fun b u e=>Heap.get?_push_of_some _ e) (ao _) ?_,rfl,q _ hf⟩;exact⟨z,us,0,r,Heap.get?_push_size _ rfl⟩
end
abbrev Sp:=List V->Hp->VK->XK->Prop
abbrev mZ:=List Env->Hp->Shared->XK->Value->Shared->Prop
structure tQ(P:Program)(w:World)(K:aa)(mg:Str->Option Value)(base:Heap)(A:Around)(outer:List Env)(s:Shared)(H:Hp):Prop where
 frames:A.frames=some outer
 mod:Mod K mg base
 bs:∀b o,base.get? b=some o->s.heap.get? b=some o/\H b=none
 zo:base.objs.size<=s.heap.objs.size
 jq:s.heap.FunFrames base outer
 Bo:∀b∈qW outer,H b=none
 cu:iY P w H s.heap
 bare:AllBare s.gens
def CE(outer:List Env)(P:Program)(w:World)(H:Hp)(s:Shared)(Q:VK)(u:Value)(s':Shared):Prop:=
 ∃v H',s'.os=s.os/\AllBare s'.gens/\Un (qW outer) [] H H' s.heap s'.heap/\iY P w H' s'.heap/\RelV v u/\Q v H'
def CR(CX:mZ)(outer:List Env)(P:Program)(w:World)(H:Hp)(s:Shared)(Q:VK)(E:XK)(r:Result)(s':Shared):Prop:=
 match r with
 | .ok (.ret u)=>CE outer P w H s Q u s'
 | .ok _=>False
 | .error e=>CX outer H s E e s'
structure nh(P:Program)(w:World)(K:aa)(mg:Str->Option Value)(base:Heap)(CX:mZ)(k:Nat)(f:Addr)(fd:FuncData)(ps:List Str)(sp:Sp):Prop where
 len:∀vs H Q E,sp vs H Q E->vs.length=ps.length
 run:∀(A:Around)(outer:List Env)(s:Shared)(H:Hp)(args:Args)(us:List Value)(vs:List V)(Q:VK)(E:XK),e9 k A->tQ P w K mg base A outer s H->BindsTo s fd args (ps.zip us)->bP vs us->sp vs H Q E->
  codeAny (model P w) A (.call (.ref f) args) (CR CX outer P w H s Q E) s
theorem tQ.make{P:Program}{w:World}{K:aa}{mg:Str->Option Value}{base:Heap}{A:Around}{outer:List Env}{s:Shared}{H:Hp}(e:tQ P w K mg base A outer s H)(C:Addr)(us:List Value)(kw:List (Str×Value)):
    tQ P w K mg base (A.under (.builtin "type.__call__" ⟨.ref C::us,kw⟩)) outer s H:=⟨by first|exact e.frames|(simpa [Around.under,Code.envs,Code.isFrame,pushEnvs]using e.frames),e.mod,e.bs,e.zo,e.jq,e.Bo,e.cu,e.bare⟩
section
variable{X:Cx}{ae:List (Addr×Obj)}{σ:St}{H:Hp}{s s':Shared}
theorem Inv.B5(I:Inv X ae σ H s):tQ X.prog X.w X.K X.mg X.base X.A X.stack s H:=
 ⟨I.ok.frames,I.ok.mod,I.bs,bf I.ok.zo I.sz,I.stack,I.vM,I.cu,I.bare⟩
theorem Inv.after{Q:VK}{u:Value}(I:Inv X ae σ H s)(h:CE X.stack X.prog X.w H s Q u s'):EP X ae σ Q u s':=by obtain⟨v,H',os,bare,un,cu,r,q⟩:=h;obtain⟨hh,g,d,t,Wa⟩:=s';obtain rfl:Wa=s.os:=os;exact⟨v,H',I.call (h':=hh) (g':=g) (d':=d) (t':=t) (ch:=[]) un cu bare (fun b z=>absurd z (by simp)),r,q⟩
end
def C7(sp:Sp)(dX:List V)(E:XK)(t:TA):TE:=fun σ H Q=>t σ H fun vs H1=>sp (vs++dX) H1 Q E
def Binds(K:aa)(fd:FuncData)(ps:List Str)(ds:List Value):Prop:=
 ∀(s:Shared)(us:List Value),K.In s.heap->(us++ds).length=ps.length->BindsTo s fd ⟨us,[]⟩ (ps.zip (us++ds))
theorem Binds.all{K:aa}{fd:FuncData}{ps:List Str}(h:∀us:List Value,us.length=ps.length->bindArgs fd ⟨us,[]⟩=pure (ps.zip us)):Binds K fd ps []:=fun s us _ hl=>by rw[aN]at hl⊢;exact .of_eq (h us hl)
section
variable{X:Cx}{CX:mZ}{k:Nat}{f C:Addr}{fd:FuncData}{ps:List Str}{sp:Sp}{dX:List V}{ds:List Value}{E:XK}{x m:Str}{p pos fP:Pos}{e o:Expr}{es:List Expr}{ta:TE}{t:TA}
structure Mk(K:aa)(C f:Addr):Prop where
 makes:gb K C=true
 init:ai K (.ref C) "__init__"=some (some (.ref f))
 fn:e8 K (.ref f)=true
 kp:ay K (.ref C)=true
end
section
variable{X:Cx}{CX:mZ}{k:Nat}{f C:Addr}{fd:FuncData}{ps ks:List Str}{sp:Sp}{E:XK}{x m:Str}{p pos fP JF:Pos}{e o:Expr}{es:List Expr}{kws:List Keyword}{te ta:TE}{t tk:TA}{nm:Option Str}
variable{g:List Value->List Value->List Value}{gV:List V->List V->List V}
end
structure au(N P:List Str)(sc:Scope):Prop where
 kind:sc.kind= .function
 co:sc.isCoroutine=false
 gen:sc.isGenerator=false
 nd:N.Nodup
 pre:N.take P.length=P
 par:∀x∈P,sc.names.lookup x=some .local\/sc.names.lookup x=some .cell
 G0:∀y∈sc.names,y.2≠.free
theorem Sn{kindOf:Str->Option NameKind}{x:Str}:∀{binds:List (Str×Value)}{m:Str->Option Value},(∀v,(x,v)∉binds)->bindL kindOf binds m x=m x
 |[],_,_=>rfl
 |(n,v)::r,m,h=>by
  unfold bindL;rw[Sn fun w hw=>h w (af _ hw)];split
  ·have:x≠n:=by rintro rfl;exact h v aq
   simp[this]
  ·rfl
theorem So{kindOf:Str->Option NameKind}{x:Str}:∀{binds:List (Str×Value)}{m:Str->Option Value},(∀v,(x,v)∉binds)->bindC kindOf binds m x=m x
 |[],_,_=>rfl
 |(n,v)::r,m,h=>by
  unfold bindC;rw[So fun w hw=>h w (af _ hw)];split
  ·rfl
  ·have:x≠n:=by rintro rfl;exact h v aq
   simp[this]
theorem Sq{kindOf:Str->Option NameKind}{x:Str}{v:Value}:∀{P:List Str}{vs:List Value}{i:Nat}{m:Str->Option Value},P.Nodup->P[i]?=some x->vs[i]?=some v->kindOf x=some .local->
    bindL kindOf (P.zip vs) m x=some v
  |[],_,_,_,_,h,_,_=>by simp at h
  |_::_,[],_,_,_,_,h,_=>by simp at h
  |p::P,w::vs,0,m,nd,h1,h2,hk=>by simp at h1 h2;subst h1;subst h2;show bindL kindOf ((p,w)::P.zip vs) m p=_;unfold bindL;rw[Sn fun v hv=>(aL.mp nd).1 (lN hv).1,if_pos hk];simp
  |p::P,w::vs,i+1,m,nd,h1,h2,hk=>by show bindL kindOf ((p,w)::P.zip vs) m x=_;unfold bindL;exact Sq (i:=i) (aL.mp nd).2 (by simpa using h1) (by simpa using h2) hk
theorem Ss{kindOf:Str->Option NameKind}{x:Str}{v:Value}:∀{P:List Str}{vs:List Value}{i:Nat}{m:Str->Option Value},P.Nodup->P[i]?=some x->vs[i]?=some v->kindOf x≠some .local->
    bindC kindOf (P.zip vs) m x=some v
  |[],_,_,_,_,h,_,_=>by simp at h
  |_::_,[],_,_,_,_,h,_=>by simp at h
  |p::P,w::vs,0,m,nd,h1,h2,hk=>by simp at h1 h2;subst h1;subst h2;show bindC kindOf ((p,w)::P.zip vs) m p=_;unfold bindC;rw[So fun v hv=>(aL.mp nd).1 (lN hv).1,if_neg hk];simp
  |p::P,w::vs,i+1,m,nd,h1,h2,hk=>by show bindC kindOf ((p,w)::P.zip vs) m x=_;unfold bindC;exact Ss (i:=i) (aL.mp nd).2 (by simpa using h1) (by simpa using h2) hk
def start(N:List Str)(vs:List V):St:=vs.map some++g7 (N.length-vs.length) none
def ku(CX:mZ)(P:Program)(w:World)(K:aa)(mg:Str->Option Value)(base:Heap)(N:List Str)(bF:Str)(scope:Scope)(f:Addr)(cd:Value)(A:Around)(outer:List Env)(s:Shared)(H:Hp)(E:XK):Cx where
 prog:=P
 w:=w
 K:=K
 mg:=mg
 base:=base
 A:=A.deeper (envOfC bF scope s.heap.objs.size f cd)
 N:=N
 s₀:=s
 H₀:=H
 env:=envOfC bF scope s.heap.objs.size f cd
 outer:=outer
 stack:=envOfC bF scope s.heap.objs.size f cd::outer
 ex:=[]
 calm:=true
 fn:=fun _=>true
 pn:=[]
 xe:=fun e s'=>wpAny (model P w) (A.deeper (envOfC bF scope s.heap.objs.size f cd)) (leaving (envOfC bF scope s.heap.objs.size f cd) e) (fun _ NY=>CX outer H s E e NY) (fun e' NY=>CX outer H s E e' NY) s'
theorem S9{sc:Scope}{n:Nat}{x:Str}(h:sc.names.lookup x=some .cell):∃c,(cellsFrom n sc.names []).lookup x=some c:=by have q:=kq sc.names n [] (.inl h);exact f9.mp q
theorem Su{CX:mZ}{P:Program}{w:World}{K:aa}{mg:Str->Option Value}{base:Heap}{N ps:List Str}{bF:Str}{scope:Scope}{f:Addr}{cd:Value}{A:Around}{outer:List Env}{s s1:Shared}{H:Hp}{E:XK}{us:List Value}{vs:List V}(S:au N ps scope)(hd:A.handled=none)(e0:tQ P w K mg base A outer s H)(hl:vs.length=ps.length)(r:bP vs us)(x:InCallC s s.heap.objs.size (bindL (envOfC bF scope s.heap.objs.size f cd).kindOf (ps.zip us) fun _=>none) (cellsFrom (s.heap.objs.size+1) scope.names []) (bindC (envOfC bF scope s.heap.objs.size f cd).kindOf (ps.zip us) fun _=>none) s1):
    Inv (ku CX P w K mg base N bF scope f cd A outer s H E) [] (start N vs) H s1:=by
  have uE:ps.length<=N.length:=by have:=congrArg m6 S.pre;rw[eZ]at this;omega
  obtain⟨h1,tk,rfl,hk⟩:=x.done;have JO:∀b:Addr,b∉(ku CX P w K mg base N bF scope f cd A outer s H E).ex:=fun b z=>absurd (show b∈([]:List Addr)from z) (by simp);refine⟨⟨e0.mod,S.kind,rfl,rfl,ao _,fun y z c h1 h2=>?_,fun y hy=>?_,fun y c _ h=>?_,fun _=>hd,Around.frames_deeper e0.frames,.inr ⟨rfl,rfl⟩,fun b z=>absurd z (JO b),e0.bs,e0.zo,fun b _ _=>JO b,fun b z=>absurd z (JO b),e0.jq,e0.Bo⟩,
    rfl,e0.bare,Un.kept hk,⟨_,x.toInCall.ns,fun i y v h1 h2 h3=>?_⟩,fun y c h=>⟨_,x.cell y c h⟩,e0.cu.fresh (ao _),fun y c h=>?_,fun p hp=>absurd (show p∈([]:List (Addr×Obj))from hp) (by simp),e0.cu.kept hk,?_⟩
  · exact name_of_addr x.apart (dP h1) (dP h2)
  · have hy:scope.names.lookup y=some .cell\/scope.names.lookup y=some .free:=hy;rcases hy with hy|hy
    · exact S9 hy
    · exact absurd rfl (S.G0 _ (dP hy))
  · exact rH (x.above y c (dP h))
  · have hi:i<vs.length:=by
      unfold start at h2;by_cases hi:i<vs.length
      · exact hi
      · rw[jB (by simpa using hi)]at h2;rw[xZ]at h2;split at h2 <;> cases h2
    have ha:vs[i]?=some v:=by
      unfold start at h2;rw[wA (by simpa using hi),dO]at h2;cases e:vs[i]? with
      |none=>rw[e]at h2;cases h2
      |some a=>rw[e]at h2;cases h2;rfl
    obtain⟨u,hu,rv⟩:=r.get ha;have hp:ps[i]?=some y:=by rw[<-S.pre,xF (by omega)];exact h1
    have Qv:ps.Nodup:=by rw[<-S.pre];exact S.nd.sublist (List.take_sublist _ _)
    refine⟨u,rv,?_⟩;rcases S.par y (fL hp)with k|k
    · exact .inl ⟨k,Sq Qv hp hu k⟩
    · obtain⟨c,e⟩:=S9 (n:=s.heap.objs.size+1) k;refine .inr ⟨.inl k,c,e,?_⟩;have q:=x.cell y c e;rw[Ss Qv hp hu (by show scope.names.lookup y≠_;rw[k];decide)]at q;exact q
  · exact e0.cu.fresh (rH (x.above y c (dP h)))
  · unfold start;show _=N.length;rw[bY,aj,List.length_replicate];omega
theorem nG{CX:mZ}{P:Program}{w:World}{K:aa}{mg:Str->Option Value}{base:Heap}{k:Nat}{f:Addr}{name bF:Str}{params:Arguments}{body:List Stmt}{scope:Scope}{dV kV kK pm bL ct oc:Value}{an od:Option Addr}{nX:Array (Option Value)}{N ps:List Str}{sp:Sp}(lk:K.lookup f=some ⟨oc,od,.func (aT name bF params body scope dV kV kK pm an bL ct),nX⟩)(lB:bD K bL bF=true)(S:au N ps scope)(len:∀vs H Q E,sp vs H Q E->vs.length=ps.length)(fR:∀(A:Around)(outer:List Env)(s:Shared)(H:Hp)(vs:List V)(Q:VK)(E:XK),e9 k (A.deeper (envOfC bF scope s.heap.objs.size f bL))->sp vs H Q E->
      ∃t,qU (ku CX P w K mg base N bF scope f bL A outer s H E) body t/\t {nx:=fun _ H'=>Q .non H',rt:=Q} (start N vs) H):
    nh P w K mg base CX (k+1) f (aT name bF params body scope dV kV kK pm an bL ct) ps sp:=by
  refine⟨len,fun A outer s H args us vs Q E hr e0 hb r m8=>?_⟩;have hl:=len _ _ _ _ m8;have KX:K.In s.heap:=e0.mod.Bu.keeps fun b o e=>(e0.bs b o e).1;have Fi:s.heap.NoLimit:=e0.mod.nolimit.keeps fun b o e=>(e0.bs b o e).1;have kP:∀y∈ps.zip us,scope.names.lookup y.1=some .local\/(scope.names.lookup y.1=some .cell/\((cellsFrom (s.heap.objs.size+1) scope.names []).lookup y.1).isSome=true):=fun⟨n,v⟩ hy=>by
    rcases S.par n (lN hy).1 with q|q
    · exact .inl q
    · exact .inr ⟨q,kq _ _ _ (.inl q)⟩
  refine codeAny_call_function hr.depth (KX _ _ lk) rfl S.co S.gen rfl (Ao KX lB) (hb _ _ _ _ ?_);refine wpAny_newFunctionEnv_cells S.kind kP fun env he s1 x=>?_;subst he;refine⟨Fi.keeps x.toInCall.keep,codeAny_func ?_⟩;obtain⟨t,ht,hq⟩:=fR A outer s H vs Q E (hr.deeper _) m8;have I:Inv (ku CX P w K mg base N bF scope f bL A outer s H E) [] (start N vs) H s1:=Su S hr.hd e0 hl r x;refine wpAny_mono (ht [] s1 (start N vs) H _ I hq) (fun fl s' hs=>?_) fun e s' hs=>hs;have gM:∀{σ':St}{H':Hp}{v:V}{u:Value},Inv (ku CX P w K mg base N bF scope f bL A outer s H E) [] σ' H' s'->RelV v u->Q v H'->CE outer P w H s Q u s':=
    fun{σ' H' v u} J rv q=>⟨v,H',J.os,J.bare,J.base,J.cu,rv,q⟩;cases fl with
  |ret u=>
    obtain⟨v,σ',H',J,rv,q⟩:=hs;exact gM J rv q
  |next=>
    obtain⟨σ',H',J,q⟩:=hs;exact gM (v:=V.non) (u:=Value.none) J rfl q
  |brk=>
    obtain⟨_,_,_,q⟩:=hs;exact aX q
  |cont=>
    obtain⟨_,_,_,q⟩:=hs;exact aX q
section
variable{X:Cx}{x:Str}{p pos:Pos}{e:Expr}{es:List Expr}{t:TA}{id T:String}{r:List V->Hp->VK->Prop}
def KJ(r:List V->Hp->VK->Prop)(t:TA):TE:=fun σ H Q=>t σ H fun vs H1=>r vs H1 Q
theorem oJ(hc:kF X (.builtin id) r)(hg:Gl X x)(hm:X.mg x=none)(hv:bootBuiltins x=some (.builtin id))(ha:PA X (e::es) t)(hn:x≠ "__name__":=by decide)(vn:(x ==("__debug__":Str))=false:=by decide)(he:starEach (e::es) X.env=(false,eval e X.env)::starEach es X.env:=by rfl)(uE:(backTo pos (starEach es X.env)).any (·.1)=false:=by rfl):PE X (.Call (.Name x p) (e::es) [] pos) (KJ r t):=by
  intro ae s σ H Q I h;refine wpAny_Call_Name_kw (HE I hg hm hv ?_ hn vn);exact PyProof.Rows.callWith_builtin1 (d7 (ha pos ae s σ H _ I h) fun us s1⟨vs,H1,I1,r1,q1⟩=>hc ae s1 σ H1 vs us Q I1 r1 q1) he uE
theorem OC(hc:kF X (.type T) r)(hg:Gl X x)(hm:X.mg x=none)(hv:bootBuiltins x=some (.type T))(ha:PA X (e::es) t)(hn:x≠ "__name__":=by decide)(vn:(x ==("__debug__":Str))=false:=by decide)(he:starEach (e::es) X.env=(false,eval e X.env)::starEach es X.env:=by rfl)(uE:(backTo pos (starEach es X.env)).any (·.1)=false:=by rfl):PE X (.Call (.Name x p) (e::es) [] pos) (KJ r t):=by
  intro ae s σ H Q I h;refine wpAny_Call_Name_kw (HE I hg hm hv ?_ hn vn);exact e7 (d7 (ha pos ae s σ H _ I h) fun us s1⟨vs,H1,I1,r1,q1⟩=>hc ae s1 σ H1 vs us Q I1 r1 q1) he uE
end
end L2
namespace HT
open PySem PyProof.Rows
section
open PySem.SeqAt
open PySem.AutoSeq1 (wpAny_loadPart')
open PySem.MeetsSeq PySem.MeetsSeq2 PySem.MeetsSeq3
end
section
variable{prog:Program}{w:World}{A:Around}{E:Value->Shared->Prop}{s:Shared}
def xj(n d:Nat):Option Int->Nat
 |none=>d
 |some v=>if v<0 then(v+(n:Int)).toNat else min v.toNat n
theorem CL(n d:Nat):xj n d none=d:=rfl
theorem Ez(n d k:Nat):xj n d (some (k:Int))=min k n:=by show(if(k:Int)<0 then((k:Int)+(n:Int)).toNat else min (k:Int).toNat n)=min k n;rw[if_neg (by omega),Int.toNat_natCast]
end
end HT
namespace L2
open PySem PySem.Spec PyProof.Rows
abbrev TO:=St->Hp->(Option Int->Hp->Prop)->Prop
def PO(X:Cx)(e:Option Expr)(t:TO):Prop:=
 ∀(ae:List (Addr×Obj))(s:Shared)(σ:St)(H:Hp)(Q:Option Int->Hp->Prop),Inv X ae σ H s->t σ H Q->
  wpAny (model X.prog X.w) X.A (evalPart e X.env) (fun u s'=>∃o H',Inv X ae σ H' s'/\IsPart u o/\Q o H') X.xe s
def qY:TO:=fun _ H Q=>Q none H
def z4(t:TE):TO:=fun σ H Q=>t σ H fun x H1=>∃i,x= .int i/\Q (some i) H1
section
variable{X:Cx}{e:Expr}{te:TE}{lo hi:Option Expr}{tl th:TO}{pos p2:Pos}
theorem TR:PO X none qY:=by intro ae s σ H Q I h;rw[evalPart_none];exact wpAny_pure ⟨none,H,I,.none,h⟩
theorem TU(h:PE X e te):PO X (some e) (z4 te):=by intro ae s σ H Q I hw;rw[evalPart_some];refine d7 (h ae s σ H _ I hw) fun u s1⟨x,H1,I1,r1,q1⟩=>?_;obtain⟨i,rfl,q⟩:=q1;obtain⟨t,rfl⟩:=r1;exact⟨some i,H1,I1,.int i t,q⟩
def Li(X:Cx)(r:V->Option Int->Option Int->Hp->VK->Prop):Prop:=
 ∀(ae:List (Addr×Obj))(s:Shared)(σ:St)(H:Hp)(x:V)(v vl vu:Value)(lo hi:Option Int)(sl:Addr)(Q:VK),Inv X ae σ H s->RelV x v->s.heap.IsSliceOf sl vl vu .none->IsPart vl lo->IsPart vu hi->r x lo hi H Q->
  ∃T id,typeLookup (.type T) "__getitem__"=pure (some (.builtin id))/\s.TypeIs v T/\wpAny (model X.prog X.w) X.A (getItem v (.ref sl)) (EP X ae σ Q) X.xe s
def LV(r:V->Option Int->Option Int->Hp->VK->Prop)(te:TE)(tl th:TO):TE:=fun σ H Q=>te σ H fun x H1=>tl σ H1 fun l H2=>th σ H2 fun u H3=>r x l u H3 Q
theorem Tc{r:V->Option Int->Option Int->Hp->VK->Prop}(hr:Li X r)(he:PE X e te)(hl:PO X lo tl)(hu:PO X hi th):PE X (.Subscript e (.Slice lo hi none p2) pos) (LV r te tl th):=by intro ae s σ H Q I h;refine Subscript_ (d7 (he ae s σ H _ I h) fun v s1⟨x,H1,I1,r1,q1⟩=>?_);refine wpAny_Slice (d7 (hl ae s1 σ H1 _ I1 q1) fun vl s2⟨l,H2,I2,pl,q2⟩=>d7 (hu ae s2 σ H2 _ I2 q2) fun vu s3⟨u,H3,I3,pu,q3⟩=>?_);rw[evalPart_none];refine wpAny_pure ?_;have I4:Inv X ae σ H3 {s3 with heap:=s3.heap.push {cls:=.type "slice",data:=.fields #[vl,vu,.none]}}:=I3.kept (t':=s3.toks) fun b ob q=>Heap.get?_push_of_some _ q;obtain⟨T,id,hT,ht,hg⟩:=hr ae {s3 with heap:=s3.heap.push {cls:=.type "slice",data:=.fields #[vl,vu,.none]}} σ H3 x v vl vu l u s3.heap.objs.size Q I4 r1 (Heap.IsSliceOf.new ..) pl pu q3;show wpAny (model X.prog X.w) X.A (subscriptTail e (.Slice lo hi none p2) v (.ref s3.heap.objs.size)) (EP X ae σ Q) X.xe {s3 with heap:=s3.heap.push {cls:=.type "slice",data:=.fields #[vl,vu,.none]}};exact tail_any (ops:=[.ref s3.heap.objs.size,v]) ht hT hg (by with_unfolding_all rfl)
def wG(xs:List V)(lo hi:Option Int):List V:=(xs.drop (HT.xj xs.length 0 lo)).take (HT.xj xs.length xs.length hi-HT.xj xs.length 0 lo)
theorem XZ(xs:List V)(lo hi:Option Int):(wG xs lo hi).length<=xs.length:=by unfold wG;rw[eZ,iB];omega
end
def Ff(n:Nat)(i:Int):Option Nat:=if 0<=i then(if i<n then some i.toNat else none)else if -(n:Int)<=i then some (i+n).toNat else none
def As{α:Type}(xs:List α)(i:Int):Option α:=(Ff xs.length i).bind fun j=>xs[j]?
theorem Z6{n:Nat}{i:Int}{j:Nat}(h:Ff n i=some j):seqIndex? i n=some j/\j<n/\-(n:Int)<=i/\i<n:=by
 unfold Ff at h;by_cases h0:0<=i
 ·rw[if_pos h0]at h;by_cases h1:i<n
  ·rw[if_pos h1]at h;have e:i.toNat=j:=aK h;exact⟨by rw[seqIndex_of h0 h1,e],by omega,by omega,h1⟩
  ·rw[if_neg h1]at h;cases h
 ·rw[if_neg h0]at h;by_cases h1:-(n:Int)<=i
  ·rw[if_pos h1]at h;have e:(i+n).toNat=j:=aK h;exact⟨by rw[seqIndex_neg (by omega) h1,e],by omega,h1,by omega⟩
  ·rw[if_neg h1]at h;cases h
theorem OX{α:Type}{xs:List α}{i:Int}{v:α}(h:As xs i=some v):∃j,seqIndex? i xs.length=some j/\xs[j]?=some v/\j<xs.length/\-(xs.length:Int)<=i/\i<xs.length:=by
 unfold As at h;cases e:Ff xs.length i with
 |none=>rw[e]at h;cases h
 |some j=>
  rw[e]at h;obtain⟨h1,h2,h3,h4⟩:=Z6 e;exact⟨j,h1,h,h2,h3,h4⟩
theorem Mi{α:Type}{xs:List α}{j:Nat}{v:α}(h:xs[j]?=some v):As xs (j:Int)=some v:=by
 have hj:j<xs.length:=(aE.mp h).1;have e:Ff xs.length (j:Int)=some j:=by unfold Ff;rw[if_pos (by omega),if_pos (by omega)];simp
 unfold As;rw[e];exact h
theorem Zh{α:Type}(xs:List α)(v:α):As (xs++[v]) (-1)=some v:=by
 have hl:(xs++[v]).length=xs.length+1:=by simp
 have e:Ff (xs++[v]).length (-1)=some xs.length:=by unfold Ff;rw[hl,if_neg (by decide),if_pos (by omega)];congr 1;omega
 unfold As;rw[e];show(xs++[v])[xs.length]?=some v;simp
def Z7(b:Expr):Prop:=∀o i,subscripted b false o i=operate [o,i] (getItem o i)
def HM(X:Cx)(r:R2):Prop:=
 ∀(value slice:Expr)(ae:List (Addr×Obj))(s:Shared)(σ:St)(H:Hp)(x y:V)(v u:Value)(Q:VK),Inv X ae σ H s->RelV x v->RelV y u->r x y H Q->
  subscripted slice false v u=operate [v,u] (getItem v u)->wpAny (model X.prog X.w) X.A (subscriptTail value slice v u) (EP X ae σ Q) X.xe s
def HQ(X:Cx)(id:String)(r:V->List V->Hp->VK->Prop):Prop:=
 ∀(ae:List (Addr×Obj))(s:Shared)(σ:St)(H:Hp)(x:V)(xs:List V)(v:Value)(us:List Value)(Q:VK),Inv X ae σ H s->RelV x v->bP xs us->r x xs H Q->
  wpAny (model X.prog X.w) X.A (call (.builtin id) (v::us)) (EP X ae σ Q) X.xe s
section
variable{X:Cx}{a b:Expr}{ta tb:TE}{pos:Pos}
theorem bE{r:R2}(hr:HM X r)(ha:PE X a ta)(hb:PE X b tb)(hs:Z7 b):PE X (.Subscript a b pos) (Hv r ta tb):=by intro ae s σ H Q I h;exact Subscript_ (Go ha hb I h fun v u s2 x y H2 I2 rx ry q=>hr a b ae s2 σ H2 x y v u Q I2 rx ry q (hs _ _))
def Ey(K:aa):R2:=fun x y H Q=>∃p xs i v,x= .ref p/\y= .int i/\iO K H p xs/\As xs i=some v/\Q v H
def A1(K:aa):R2:=fun x y H Q=>∃p xs i v,x= .ref p/\y= .int i/\p9 K H p xs/\As xs i=some v/\Q v H
def NV:R2:=fun x y H Q=>∃z i c,x= .str z/\y= .int i/\z.length<=sizeLine/\As z.cps.toList i=some c/\Q (.str ⟨#[c]⟩) H
theorem Z8:HM X (Ey X.K):=by
 intro value slice ae s σ H x y v u Q I rx ry h hs;obtain⟨p,xs,i,z,rfl,rfl,hq,he,q⟩:=h;cases rx
 obtain⟨t,rfl⟩:=ry;obtain⟨dJ,r,pl,hz⟩:=I.list hq;obtain⟨j,h1,h2,h3,h4,h5⟩:=OX he;obtain⟨w,ew,wg⟩:=r.get h2;have hl:=r.length;have hn:=IE;have gM:EP X ae σ Q w s:=⟨z,H,I,wg,q⟩;by_cases h0:0<=i
 ·have hj:i.toNat=j:=by rw[seqIndex_of h0 h5]at h1;exact aK h1
  exact item_listR pl.isList h0 (by omega) (by rw[hj];simpa using ew) gM hs
 ·have hj:(i+(dJ.toArray.size:Int)).toNat=j:=by rw[seqIndex_neg (by omega) h4]at h1;rw[aP,<-hl];exact aK h1
  exact subscriptTail_builtinR (x:=w) pl.isList.typeIs slot_list_getitem.lookup
   (wpAny_getItem_list_neg (Q:=fun r s'=>r=w/\EP X ae σ Q r s') pl.isList (by omega) (by rw[aP] <;> omega) (by omega) (by rw[hj];simpa using ew) ⟨rfl,gM⟩) hs
theorem zyc:HM X (A1 X.K):=by
 intro value slice ae s σ H x y v u Q I rx ry h hs;obtain⟨p,xs,i,z,rfl,rfl,hq,he,q⟩:=h;cases rx
 obtain⟨t,rfl⟩:=ry;obtain⟨dJ,r,pl,hz⟩:=I.tuple hq;obtain⟨j,h1,h2,h3,h4,h5⟩:=OX he;obtain⟨w,ew,wg⟩:=r.get h2;have hl:=r.length;have hn:=IE;have gM:EP X ae σ Q w s:=⟨z,H,I,wg,q⟩;exact subscriptTail_builtinR (x:=w) pl.typeIs slot_tuple_getitem.lookup
  (getItem_tuple (j:=j) (Q:=fun r s'=>r=w/\EP X ae σ Q r s') pl (by omega) (by omega) (by rw[aP,<-hl];exact h1) (by simpa using ew) ⟨rfl,gM⟩) hs
theorem zyd:HM X NV:=by
 intro value slice ae s σ H x y v u Q I rx ry h hs;obtain⟨z,i,c,rfl,rfl,hz,he,q⟩:=h;obtain⟨t,rfl⟩:=rx;obtain⟨t',rfl⟩:=ry;obtain⟨j,h1,h2,h3,h4,h5⟩:=OX he;have hl:z.cps.toList.length=z.length:=by simp[Str.length]
 rw[hl]at h1 h4 h5;have hn:=IE;exact tail_any (typeIs_str s z t) slot_str_getitem.lookup (getItem_str (c:=c) (by have e1:decide (i < -(2^63:Int))=false:=decide_eq_false (by omega);have e2:decide (i>=2^63)=false:=decide_eq_false (by omega);rw[e1,e2,Bool.or_false]) (by rw[h1];simpa using h2) ⟨.str ⟨#[c]⟩,H,I.tok _,⟨_,rfl⟩,q⟩) hs
theorem XF(lo hi:Option Int)(n:Nat):(sliceBounds lo hi none n).1=((HT.xj n 0 lo:Nat):Int)/\(sliceBounds lo hi none n).2.1=((HT.xj n n hi:Nat):Int)/\(sliceBounds lo hi none n).2.2=1:=by
 refine⟨?_,?_,rfl⟩
 ·cases lo with
  |none=>simp[sliceBounds,HT.xj]
  |some i=>
   simp only[sliceBounds,HT.xj,Dk,show(1:Int) > 0 by decide,if_true];by_cases h:i<0
   ·simp only[h,if_true] <;> omega
   ·simp only[h,if_false] <;> omega
 ·cases hi with
  |none=>simp[sliceBounds,HT.xj]
  |some i=>
   simp only[sliceBounds,HT.xj,Dk,show(1:Int) > 0 by decide,if_true];by_cases h:i<0
   ·simp only[h,if_true] <;> omega
   ·simp only[h,if_false] <;> omega
theorem Xo(dJ:List Value)(lo hi:Option Int):slicePick dJ.toArray lo hi none=((dJ.drop (HT.xj dJ.length 0 lo)).take (HT.xj dJ.length dJ.length hi-HT.xj dJ.length 0 lo)).toArray:=by obtain⟨h1,h2,h3⟩:=XF lo hi dJ.toArray.size;unfold slicePick;rw[h1,h2,h3];simp only[sliceRange_one,pick_run,aP] <;> rfl
def G9(K:aa):V->Option Int->Option Int->Hp->VK->Prop:=fun x lo hi H Q=>∃a xs,x= .ref a/\iO K H a xs/\∀p,H p=none->Q (.ref p) (aB H p (.lst (wG xs lo hi)))
theorem Z9:Li X (G9 X.K):=by
 intro ae s σ H x v vl vu lo hi sl Q I rx hs pl pu h;obtain⟨a,xs,rfl,hx,q⟩:=h;cases rx
 obtain⟨dJ,r,ht,hz⟩:=I.list hx;have gh:=r.length;refine⟨"list",_,slot_list_getitem.lookup,ht.isList.typeIs,?_⟩;refine wpAny_getItem_list_slice ht.isList hs pl pu .none (by simp) ?_ (by rw[aP] <;> omega);rw[Xo,<-gh];refine⟨.ref s.heap.objs.size,_,I.laid (t':=s.toks) (o:=.lst (wG xs lo hi)) (fun b ob q=>Heap.get?_push_of_some _ q) (ao _) ?_,rfl,q _ (I.cu.fresh (ao _))⟩;exact⟨bf (XZ xs lo hi) hz,_,0,(r.drop (HT.xj xs.length 0 lo)).take (HT.xj xs.length xs.length hi-HT.xj xs.length 0 lo),Heap.get?_push_size _ rfl⟩
def pO:V->Bool
 | .non=>true
 | .bl _=>true
 | .int _=>true
 | .str _=>true
 |_=>false
def E5:V->V->Bool
 | .non,.non=>true
 | .bl a,.bl b=>a ==b
 | .bl a,.int b=>(if a then 1 else 0) ==b
 | .int a,.bl b=>a ==(if b then 1 else 0)
 | .int a,.int b=>a ==b
 | .str a,.str b=>a ==b
 |_,_=>false
theorem zye{A:Around}{s:Shared}{y x:V}{u v:Value}(ry:RelV y u)(rx:RelV x v)(fy:pO y=true)(fx:pO x=true):SeqAt.EqAt A s u v (E5 y x):=by
 cases y with
 |non=>
  cases ry;cases x with
  |non=>cases rx;exact SeqAt.EqAt.same _
  |bl b=>cases rx;exact SeqAt.EqAt.none_bool b
  |int b=>obtain⟨t,rfl⟩:=rx;exact SeqAt.EqAt.none_int b t
  |str b=>obtain⟨t,rfl⟩:=rx;exact SeqAt.EqAt.none_str b t
  |_=>exact absurd (show false=true from fx) aG
 |bl a=>
  cases ry;cases x with
  |non=>cases rx;exact SeqAt.EqAt.bool_none a
  |bl b=>cases rx;exact SeqAt.EqAt.bool_bool a b
  |int b=>obtain⟨t,rfl⟩:=rx;exact SeqAt.EqAt.bool_int a b t
  |str b=>obtain⟨t,rfl⟩:=rx;exact SeqAt.EqAt.bool_str a b t
  |_=>exact absurd (show false=true from fx) aG
 |int a=>
  obtain⟨t',rfl⟩:=ry;cases x with
  |non=>cases rx;exact SeqAt.EqAt.int_none a t'
  |bl b=>cases rx;exact SeqAt.EqAt.int_bool a t' b
  |int b=>obtain⟨t,rfl⟩:=rx;exact SeqAt.EqAt.int_int a t' b t
  |str b=>obtain⟨t,rfl⟩:=rx;exact SeqAt.EqAt.int_str a t' b t
  |_=>exact absurd (show false=true from fx) aG
 |str a=>
  obtain⟨t',rfl⟩:=ry;cases x with
  |non=>cases rx;exact SeqAt.EqAt.str_none a t'
  |bl b=>cases rx;exact SeqAt.EqAt.str_bool a t' b
  |int b=>obtain⟨t,rfl⟩:=rx;exact SeqAt.EqAt.str_int a t' b t
  |str b=>obtain⟨t,rfl⟩:=rx;exact SeqAt.EqAt.str_str a t' b t
  |_=>exact absurd (show false=true from fx) aG
 |_=>exact absurd (show false=true from fy) aG
def Ec(x:V)(u:Value):Bool:=match u with
 | .none=>E5 .non x
 | .bool b=>E5 (.bl b) x
 | .int i _=>E5 (.int i) x
 | .str z _=>E5 (.str z) x
 |_=>false
theorem Uo{x y:V}{u:Value}(r:RelV y u)(f:pO y=true):Ec x u=E5 y x:=by
 cases y with
 |non=>cases r;rfl
 |bl b=>cases r;rfl
 |int i=>obtain⟨t,rfl⟩:=r;rfl
 |str z=>obtain⟨t,rfl⟩:=r;rfl
 |_=>exact absurd (show false=true from f) aG
theorem OY{x:V}:∀{xs:List V}{us:List Value},bP xs us->xs.all pO=true->us.any (Ec x)=xs.any fun y=>E5 y x
 |_,_,.nil,_=>rfl
 |y::xs,u::us,.cons r t,f=>by rw[List.all_cons,eF]at f;rw[j2,j2,Uo r f.1,OY t f.2]
theorem OL{A:Around}{s:Shared}{x:V}{v:Value}(rx:RelV x v)(fx:pO x=true):∀{xs:List V}{us:List Value},bP xs us->xs.all pO=true->∀u∈us,SeqAt.EqAt A s u v (Ec x u)
 |_,_,.nil,_=>fun u hu=>by cases hu
 |y::xs,u::us,.cons r t,f=>fun u' hu=>by
  rw[List.all_cons,eF]at f;rcases ah.mp hu with rfl|hu
  ·rw[Uo r f.1];exact zye r rx f.1 fx
  ·exact OL rx fx t f.2 u' hu
def Nt(x:V)(xs:List V):Bool:=xs.any fun y=>E5 y x
def QE(K:aa)(neg:Bool):R2:=fun x y H Q=>∃p xs,y= .ref p/\(iO K H p xs\/p9 K H p xs)/\pO x=true/\xs.all pO=true/\Q (.bl (if neg then !Nt x xs else Nt x xs)) H
theorem XG:l0 X (compareOp .NotIn) (QE X.K true):=by
 intro ae s σ H x y v u Q I rx ry h;obtain⟨p,xs,rfl,hq,fx,fs,q⟩:=h;cases ry
 rcases hq with hq|hq
 ·obtain⟨dJ,r,pl,hz⟩:=I.list hq;refine SeqAt.notIn_listAt (Ec x) pl.isList (fun w hw=>OL rx fx r fs w (by simpa using hw)) ⟨.bl _,H,I,rfl,?_⟩;rw[show dJ.toArray.any (Ec x)=dJ.any (Ec x)by simp,OY r fs];exact q
 ·obtain⟨dJ,r,pl,hz⟩:=I.tuple hq;refine SeqAt.notIn_tupleAt (Ec x) pl (fun w hw=>OL rx fx r fs w (by simpa using hw)) ⟨.bl _,H,I,rfl,?_⟩;rw[show dJ.toArray.any (Ec x)=dJ.any (Ec x)by simp,OY r fs];exact q
theorem XI:kF X (.builtin "len") (fun xs H Q=>∃p ys,xs=[.ref p]/\(iO X.K H p ys\/p9 X.K H p ys)/\Q (.int ys.length) H):=by
 intro ae s σ H xs us Q I r h;obtain⟨p,ys,rfl,hq,q⟩:=h;obtain⟨u,rfl,rx⟩:=vals1 r;cases rx
 have hn:=IE;rcases hq with hq|hq
 ·obtain⟨dJ,r',pl,hz⟩:=I.list hq;have gh:=r'.length;exact Calls.call_len_list pl.isList (by simp only[aP] <;> omega) ⟨.int ys.length,H,I.tok _,⟨s.toks+1,by rw[aP,gh]⟩,q⟩
 ·obtain⟨dJ,r',pl,hz⟩:=I.tuple hq;have gh:=r'.length;exact len_tuple pl (by simp only[aP] <;> omega) ⟨.int ys.length,H,I.tok _,⟨s.toks+1,by rw[aP,gh]⟩,q⟩
theorem RK:kF X (.builtin "len") (fun xs H Q=>∃z,xs=[.str z]/\z.length<=sizeLine/\Q (.int z.length) H):=by intro ae s σ H xs us Q I r h;obtain⟨z,rfl,hz,q⟩:=h;obtain⟨u,rfl,t,rfl⟩:=vals1 r;have hn:=IE;exact len_str (by omega) ⟨.int z.length,H,I.tok _,⟨_,rfl⟩,q⟩
def LY(K:aa)(T:String)(x:V)(H:Hp):Prop:=match x with
  | .str _=>T="str"
  | .int _=>T="int"
  | .ref p=>(T="list"/\∃xs,iO K H p xs)\/(T="tuple"/\∃o,K.lookup p=some o/\o.cls= .type "tuple"/\o.dict=none)\/
      (T="dict"/\((∃aI,H p=some (.dK aI))\/∃aI,H p=some (.dT aI)))\/(T="set"/\∃S n,H p=some (.set S n))
  |_=>False
theorem Uq{ae:List (Addr×Obj)}{σ:St}{H:Hp}{s:Shared}{T:String}{x:V}{v:Value}(I:Inv X ae σ H s)(r:RelV x v)(ty:LY X.K T x H):
    s.TypeIs v T/\∀a,v= .ref a->∃ob,s.heap.get? a=some ob/\ob.dict=none:=by
  cases x with
  |str z=>
    obtain⟨t,rfl⟩:=r;cases(show T="str"from ty)
    exact⟨typeIs_str s z t,fun _ e=>nomatch e⟩
  |int i=>
    obtain⟨t,rfl⟩:=r;cases(show T="int"from ty)
    exact⟨typeIs_int s i t,fun _ e=>nomatch e⟩
  |ref p=>
    cases r;rcases ty with⟨rfl,xs,hq⟩ |⟨rfl,o,hk,hc,hd⟩ |⟨rfl,hk⟩ |⟨rfl,S,n,hk⟩
    · obtain⟨dJ,_,pl,_⟩:=I.list hq;refine⟨pl.isList.typeIs,fun a e=>?_⟩;cases e
      obtain⟨o,n,e,c,hd,_⟩:=pl;exact⟨o,e,hd⟩
    · refine⟨⟨o,I.l7 p o hk,hc⟩,fun a e=>?_⟩;cases e
      exact⟨o,I.l7 _ o hk,hd⟩
    · have z:∃o,s.heap.get? p=some o/\o.ExactDict:=by
        rcases hk with⟨aI,hk⟩ |⟨aI,hk⟩
        · obtain⟨_,_,_,_,o,_,_,e,ex,_⟩:=I.cu p _ hk;exact⟨o,e,ex⟩
        · obtain⟨_,_,_,_,o,_,_,e,ex,_⟩:=I.cu p _ hk;exact⟨o,e,ex⟩
      obtain⟨o,e,ex⟩:=z;refine⟨⟨o,e,ex.1⟩,fun a e2=>?_⟩;cases e2
      exact⟨o,e,ex.2.1⟩
    · obtain⟨o,_,_,_,e,ex,_⟩:=I.cu p _ hk;refine⟨⟨o,e,ex.1⟩,fun a e2=>?_⟩;cases e2
      exact⟨o,e,ex.2.1⟩
  |_=>exact aX ty
def EE(K:aa)(T:String)(r:V->List V->Hp->VK->Prop)(to:TE):TE:=fun σ H Q=>to σ H fun x H1=>LY K T x H1/\r x [] H1 Q
def KI(K:aa)(T:String)(r:V->List V->Hp->VK->Prop)(to:TE)(t:TA):TE:=fun σ H Q=>to σ H fun x H1=>LY K T x H1/\t σ H1 fun xs H2=>r x xs H2 Q
variable{o e:Expr}{es:List Expr}{to:TE}{t:TA}{name:Str}{fP fQ:Pos}{T id:String}{r:V->List V->Hp->VK->Prop}
theorem zyf(pa:PlainAttrs T)(slot:Slot T name id)(Br:typeOf (.builtin id)=pure (.type "method_descriptor"))(hm:HQ X id r)(ho:PE X o to)(nH:attributeBase o name X.env (eval o X.env)=eval o X.env:=by rfl)(nJ:(fP.endLine ==fQ.line)=true:=by rfl):PE X (.Call (.Attribute o name fP) [] [] fQ) (EE X.K T r to):=by
  intro ae s σ H Q I h;refine wpAny_Call_method0_late nH nJ (d7 (ho ae s σ H _ I h) fun v s1⟨x,H1,I1,r1,ty,q1⟩=>?_);obtain⟨h1,h2⟩:=Uq I1 r1 ty;exact⟨T,id,pa,slot,Br,h1,h2,Calls.callWith_builtin rfl (Bl (hm ae s1 σ H1 x [] v [] Q I1 r1 .nil q1))⟩
theorem pS(pa:PlainAttrs T)(slot:Slot T name id)(Br:typeOf (.builtin id)=pure (.type "method_descriptor"))(hm:HQ X id r)(ho:PE X o to)(ha:PA X (e::es) t)(nH:attributeBase o name X.env (eval o X.env)=eval o X.env:=by rfl)(Cb:((backTo fQ (starEach (e::es) X.env)).all (fun x=>!x.1) && (backToKw fQ (keywordEach [] X.env)).all (fun x=>x.1.isSome)
      && decide ((e::es).length+([]:List Keyword).length+(if([]:List Keyword).isEmpty then 0 else 1)<30))=true:=by rfl)(nJ:(fP.endLine ==fQ.line)=true:=by rfl)(hs:starEach (e::es) X.env=(false,eval e X.env)::starEach es X.env:=by rfl)(hplain:(backTo fQ (starEach es X.env)).any (·.1)=false:=by rfl):
    PE X (.Call (.Attribute o name fP) (e::es) [] fQ) (KI X.K T r to t):=by
  intro ae s σ H Q I h;refine wpAny_Call_method_late nH Cb nJ rfl (d7 (ho ae s σ H _ I h) fun v s1⟨x,H1,I1,r1,ty,q1⟩=>?_);obtain⟨h1,h2⟩:=Uq I1 r1 ty;refine⟨T,id,pa,slot,Br,h1,h2,?_⟩;have hA:=ha fQ ae s1 σ H1 _ I1 q1;rw[hs]at hA⊢;refine Calls.callWith_builtin (by show(false||(backTo fQ (starEach es X.env)).any (·.1))=false;rw[hplain] <;> rfl) (Calls.evalArgs_plain ?_);exact d7 hA fun us s2⟨vs,H2,I2,r2,q2⟩=>hm ae s2 σ H2 x vs v us Q I2 r1 r2 q2
end
def Po(X:Cx)(id:String)(r:V->List V->Hp->VK->Prop):Prop:=
 ∀(ae:List (Addr×Obj))(s:Shared)(σ:St)(H:Hp)(x:V)(xs:List V)(v:Value)(us:List Value)(Q:VK),Inv X ae σ H s->RelV x v->bP xs us->r x xs H Q->
  wpAny (model X.prog X.w) X.A (call (.builtin id) (v::us)) (EP X ae σ Q) X.xe s
theorem bP.one:∀{x:V}{us:List Value},bP [x] us->∃u,us=[u]/\RelV x u
 |_,_,.cons r .nil=>⟨_,rfl,r⟩
theorem bP.two:∀{x y:V}{us:List Value},bP [x,y] us->∃u v,us=[u,v]/\RelV x u/\RelV y v
 |_,_,_,.cons r (.cons q .nil)=>⟨_,_,rfl,r,q⟩
theorem bP.zero:∀{us:List Value},bP [] us->us=[]
 |_,.nil=>rfl
theorem bP.reverse{xs:List V}{us:List Value}(h:bP xs us):bP xs.reverse us.reverse:=by
 induction h with
 |nil=>exact .nil
 |cons r t ih=>rw[DX,DX];exact bP.append ih (.cons r .nil)
section
variable{X:Cx}{ae:List (Addr×Obj)}{σ:St}{H:Hp}{s:Shared}{l b:Addr}{xs ys zs:List V}
theorem Inv.JJ{dJ its':List Value}{n:Nat}{f:Array Value->Array Value}{t':Nat}(I:Inv X ae σ H s)(hH:H l=some (.lst xs))(e:s.heap.get? l=some {cls:=.type "list",data:=.seq dJ.toArray n})(hf:f dJ.toArray=its'.toArray)(hv:bP ys its')(hz:ys.length<=sizeLine):
    Inv X ae σ (aB H l (.lst ys)) {s with heap:=s.heap.update l (Obj.mapSeq f),toks:=t'}:=by
  have q:=PySem.IsL.update e f;rw[hf]at q;refine I.write (x:=l) (e:=l) (by rw[hH];exact trivial) (.inl rfl) (fun b' u hb hu=>(Heap.get?_update_other s.heap (Obj.mapSeq f) (bV hb)).trans hu) ⟨_,q⟩ ?_;exact⟨hz,its',_,hv,q⟩
theorem Inv.NG{dJ:List Value}{t':Nat}(I:Inv X ae σ H s)(hv:bP ys dJ)(hz:ys.length<=sizeLine):
    Inv X ae σ (aB H s.heap.objs.size (.lst ys)) {s with heap:=s.heap.push {cls:=.type "list",data:=.seq dJ.toArray},toks:=t'}:=
  I.laid (fun _ _ q=>Heap.get?_push_of_some _ q) (ao _) ⟨hz,dJ,0,hv,Heap.get?_push_size _ rfl⟩
theorem Inv.fresh(I:Inv X ae σ H s):H s.heap.objs.size=none:=I.cu.fresh (ao _)
theorem Inv.Cq(I:Inv X ae σ H s)(hH:H l=some (.lst xs)):xs.length<=sizeLine/\∃(dJ:List Value)(n:Nat),bP xs dJ/\xs.length=dJ.length/\s.heap.get? l=some {cls:=.type "list",data:=.seq dJ.toArray n}:=by obtain⟨z,dJ,n,r,e⟩:=I.cu l _ hH;exact⟨z,dJ,n,r,r.length,e⟩
end
section
variable{X:Cx}
def TV:V->List V->Hp->VK->Prop:=fun x vs H Q=>∃l xs y,x= .ref l/\vs=[y]/\H l=some (.lst xs)/\xs.length<sizeLine/\Q .non (aB H l (.lst (xs++[y])))
theorem F1:Po X "list.append" TV:=by
 intro ae s σ H x vs v us Q I rx rv h;obtain⟨l,xs,y,rfl,rfl,hH,hz,q⟩:=h;cases rx
 obtain⟨u,rfl,ru⟩:=rv.one;obtain⟨z,dJ,n,r,hl,e⟩:=I.Cq hH;refine call_meets F.slot_list_append ⟨_,e,rfl⟩ F.entry_list_append (F.args_list_append_2 _ _) (PySem.list_append l dJ.toArray n u (by rw[aP];omega)) ⟨e,?_⟩;refine⟨.non,_,I.JJ (its':=dJ++[u]) hH e (by simp) (r.append (.cons ru .nil)) ?_,rfl,q⟩;rw[bY,Al];omega
def Zi:V->List V->Hp->VK->Prop:=fun x vs H Q=>∃l xs,x= .ref l/\vs=[]/\H l=some (.lst xs)/\Q .non (aB H l (.lst xs.reverse))
theorem Yn:Po X "list.reverse" Zi:=by
 intro ae s σ H x vs v us Q I rx rv h;obtain⟨l,xs,rfl,rfl,hH,q⟩:=h;cases rx
 have VO:=rv.zero;subst VO;obtain⟨z,dJ,n,r,hl,e⟩:=I.Cq hH;refine call_meets F.slot_list_reverse ⟨_,e,rfl⟩ F.entry_list_reverse (F.args_list_reverse_1 _) (AutoSeq1.list_reverse_list_0 l dJ.toArray n (by rw[aP];omega)) ⟨e,?_⟩;refine⟨.non,_,I.JJ (its':=dJ.reverse) hH e (by simp) r.reverse ?_,rfl,q⟩;rw[oF];omega
def JY:R2:=fun x y H Q=>∃l b xs zs,x= .ref l/\y= .ref b/\H l=some (.lst xs)/\H b=some (.lst zs)/\xs.length+zs.length<=sizeLine/\∀p,H p=none->Q (.ref p) (aB H p (.lst (xs++zs)))
theorem Ld:l0 X (binaryOp .Add) JY:=by
 intro ae s σ H x y v u Q I rx ry h;obtain⟨l,b,xs,zs,rfl,rfl,hH,hB,hz,q⟩:=h;cases rx
 cases ry;obtain⟨z,dJ,n,r,hl,e⟩:=I.Cq hH
 obtain⟨z2,JD,n2,r2,xN,e2⟩:=I.Cq hB;refine PySem.P.add_list e e2 ?_ (by rw[aP,aP];omega);have ea:dJ.toArray++JD.toArray=(dJ++JD).toArray:=by simp
 rw[ea];exact⟨.ref _,_,I.NG (t':=s.toks) (r.append r2) (by rw[bY];omega),rfl,q _ I.fresh⟩
end
section
variable{prog:Program}{w:World}{A:Around}{E:Value->Shared->Prop}{s:Shared}
end
section
variable{X:Cx}
end
end L2
namespace Pg
open PySem PySem.W PySem.Calls PyProof.Rows
theorem WM{P:Params}{h:Heap}:∀(ns:List Int)(vs:List Value),WellAll P h vs (ns.map WData.int)->IntsAre vs ns:=by
 intro ns
 induction ns with
 |nil=>
  intro vs w;rw[lj]at w;cases w
  exact .nil
 |cons n ns ih=>
  intro vs w;rw[aM]at w;cases w with
  |cons a b=>
   cases a;exact .cons _ _ (ih _ b)
theorem YM{l:OpenLaw}{n:Nat}(hn:l.most=some n){P:Params}{h:Heap}{args:List WData}{HB:List Value}(Ej:l.row.toRowW.claim.pre args=true)(Nq:WellAll P h HB args):
    ∃a vs ns,HB=[Value.ref a]/\args=[WData.list (ns.map WData.int)]/\h.get? a=some {cls:=.type "list",data:=.seq vs.toArray}/\IntsAre vs ns/\ns.length<=n:=by
  have VM:WShape.hasAll [] args [.list .int]=true:=(pre_splitW Ej).1;have hc:l.pre.holds [] {args:=args}=true:=(pre_splitW Ej).2;obtain⟨d,r,rfl,h1,h2⟩:=hasAllW_cons VM;obtain rfl:=hasAllW_nil h2;obtain⟨xs,rfl,h3⟩:=hasW_list h1;obtain⟨ns,rfl⟩:=items_int h3;have gh:ns.length<=n:=by
    unfold OpenLaw.pre at hc;have h4:(WTm.not (.lt (.lit (.int (n:Int))) (.len (.arg 0)))).holds [] {args:=[.list (ns.map .int)]}=true:=by have h4:=(holds_andW hc).1;rw[hn]at h4;exact h4
    have h5:=condW_of h4 (w_not (w_lt w_lit (w_len_list (w_arg rfl))));rw[aj]at h5;refine Nat.le_of_not_lt fun q=>?_;have q':(n:Int)<((ns.length:Nat):Int):=by omega
    first
      |(rw[decide_eq_true q']at h5;exact absurd h5 (by decide))
      |(simp at h5;omega)
  cases Nq with
  |cons w1 w2=>
    cases w2;cases w1 with
    |list ho rT=>exact⟨_,_,ns,rfl,rfl,ho,WM ns _ rT,gh⟩
theorem YN(l:OpenLaw)(args:List WData):l.row.toRowW.claim.post args (.bool true) args=true:=
 postW_of (r:=l.row.toRowW) (X:=(true ==true))
  (show WShape.has [] (.bool true) .bool=true by first|rfl|decide|simp[WShape.has,WShape.arms,WShape.armsAll])
  (show(WTm.eq .res (.lit (.bool true))).value [] {args:=args,res:=some (.bool true),after:=args}=some (.bool (true ==true))from w_eq_bool (w_res rfl) w_lit) rfl
theorem wE{l:OpenLaw}{n:Nat}{q:Program}{uJ:List Str}{XP:(Str->Option Value)->Heap->Prop}{YP:World->Heap->Prop}{d:DefRec}(hn:l.most=some n)(Jq:d.params.defaults=[])(call:∀(w:World)(s₀ s₁:Shared)(mg mb:Str->Option Value)(fa:Addr)(o:Obj)(pm cd kK:Value)(a:Addr)(vs:List Value)(ns:List Int),
      Ground q uJ [] XP w s₀ mg mb s₁.heap->YP w s₁.heap->
      s₁.heap.get? fa=some o->o.data= .func (docDef d.name d.params d.body d.scope pm cd kK)->s₁.heap.CodeRec cd d.name->mg d.name=some (.ref fa)->
      s₁.heap.get? a=some {cls:=.type "list",data:=.seq vs.toArray}->IntsAre vs ns->ns.length<=n->s₁.gens= #[]->
      codeAny (model l.prog w) callerA (.call (.ref fa) ⟨[.ref a],[]⟩) (fun r s'=>r= .ok (.ret (.bool true))/\OldK s₁.heap s'.heap/\s'.os=s₁.os/\AllBare s'.gens) s₁):
    WalkO q uJ XP YP l.row.toRowW d [] (fun f vs=>BQ f vs):=by
  intro w s₀ s₁ mg mb G Y fa o pm cd kK dV kV ho hd lB hD Ju hg args HB as Ej VC GJ Nq hlo;obtain rfl:dV= .none:=Dflts.none hD Jq;obtain rfl:kV= .none:=Dflts.noKw hD;obtain⟨a,vs,ns,rfl,rfl,GI,Cd,gh⟩:=YM hn Ej Nq;refine enter_call (codeAny_mono (call w s₀ s₁ mg mb fa o pm cd kK a vs ns G Y ho (fd_plain hd) lB Ju GI Cd gh hg) fun r s' hq=>?_);obtain⟨rfl,h2,h3,h4⟩:=hq;exact⟨.inl ⟨.bool true,.bool true,[],rfl,fun _=>rfl,.bool true,YN l _,fun _=>⟨List.Pairwise.nil,fun _ hm=>(nomatch hm)⟩⟩,h2,h3,h4⟩
section
variable{prog:Program}{w:World}{A:Around}{E:Value->Shared->Prop}{s:Shared}{K:Frag}
end
end Pg
namespace L2
open PySem PySem.Spec PyProof.Rows
theorem Sv:∀{vs:List Value}{ns:List Int},IntsAre vs ns->bP (ns.map V.int) vs
 |_,_,.nil=>.nil
 |_,_,.cons n t h=>.cons ⟨t,rfl⟩ (Sv h)
def Gk(H:Hp):Prop:=∀b,H b=none\/∃o xs,H b=some (.frz o (.lst xs))
theorem Cp {P:Program} {w:World} {K:aa} {mg mb:Str->Option Value} {CX:mZ} {k:Nat} {fa a:Addr} {fd:FuncData} {x:Str} {sp:Sp} {s₁:Shared} {vs:List Value} {ns:List Int}
    (KX:K.In s₁.heap) (Jv:s₁.heap.Ns mainGlobals mg) (hb:s₁.heap.Ns builtinsNs mb) (Dy:∀ x:Str,x ≠ "__name__" -> mb x=bootBuiltins x) (Nf:s₁.heap.NoLimit) (hg:s₁.gens = #[])
    (ha:s₁.heap.get? a=some { cls:=.type "list", data:=.seq vs.toArray }) (hi:IntsAre vs ns) (hl:ns.length<=sizeLine) (hr:e9 k callerA)
    (F:∀ base:Heap,K.In base->base.Ns mainGlobals mg->nh P w K mg base CX k fa fd [x] sp) (Jm:∀ (s:Shared) (u:Value),BindsTo s fd ⟨[u],[]⟩ [(x,u)])
    (m8:∀ H:Hp,Gk H->iO K H a (ns.map V.int)->sp [.ref a] H (fun v _=>v = .bl true) fun _ _ _=>False)
    (M2:∀ H e s',CX [] H s₁ (fun _ _ _=>False) e s'->False) :
    codeAny (model P w) callerA (.call (.ref fa) ⟨[.ref a],[]⟩) (fun r s'=>r = .ok (.ret (.bool true))/\OldK s₁.heap s'.heap/\s'.os=s₁.os/\AllBare s'.gens) s₁:=by
  have rv:=Sv hi
  have NE:=hi.length
  have I0:∀ H:Hp,Gk H->iO K H a (ns.map V.int)->iY P w H s₁.heap->(∀ b,H b≠none->b=a)->(H a≠none->K.lookup a=none) ->
      codeAny (model P w) callerA (.call (.ref fa) ⟨[.ref a],[]⟩) (fun r s'=>r = .ok (.ret (.bool true))/\OldK s₁.heap s'.heap/\s'.os=s₁.os/\AllBare s'.gens) s₁:=by
    intro H hO hS cu hA hK
    have zm:∀ {b:Addr} {o:Obj},s₁.heap.get? b=some o->H b=none->(vo s₁.heap H).get? b=some o:=fun e n=>Zc e n
    have JO:∀ {b:Addr} {o:Obj} {es:Array DictEntry} {ep:Nat},s₁.heap.get? b=some o->o.data = .dict es ep->H b=none:=fun {b o es ep} e d=>by
      cases q:H b with
      | none=>rfl
      | some u =>
        have e':b=a:=hA b (by rw [q]; simp)
        subst e'
        rw [ha] at e; cases e
        have d':Data.seq vs.toArray _=Data.dict es ep:=d
        cases d'
    have LG:∀ {b:Addr} {m:Str->Option Value},s₁.heap.Ns b m->(vo s₁.heap H).Ns b m:=fun {b m} ⟨o,es,ep,e,d,r⟩=>⟨o,es,ep,zm e (JO e d),d,r⟩
    have PK:K.In (vo s₁.heap H):=fun b o e=>zm (KX b o e) (by
      cases q:H b with
      | none=>rfl
      | some u =>
        have e':b=a:=hA b (by rw [q]; simp)
        subst e'
        rw [hK (by rw [q]; simp)] at e; cases e)
    have hM:Mod K mg (vo s₁.heap H):=⟨PK,LG Jv,⟨mb,LG hb,Dy⟩,let ⟨mc,h1,h2⟩:=Nf; ⟨mc,LG h1,h2⟩⟩
    have e0:tQ P w K mg (vo s₁.heap H) callerA [] s₁ H:=⟨rfl,hM,fun b o e=>ZZ e,Nat.le_of_eq (YF _ _),trivial,fun b hb=>absurd (show b∈([]:List Addr) from hb) (by simp),cu,.of_eq hg⟩
    refine codeAny_mono ((F _ PK (LG Jv)).run callerA [] s₁ H ⟨[.ref a],[]⟩ [.ref a] [.ref a] _ _ hr e0 (Jm s₁ (.ref a)) (.cons rfl .nil) (m8 H hO hS)) fun r s' h=>?_
    cases r with
    | error e=>exact (M2 H e s' h).elim
    | ok fl =>
      cases fl with
      | next=>exact aX h
      | brk=>exact aX h
      | cont=>exact aX h
      | ret u =>
        obtain ⟨v,H',os,bare,un,Ni,r',q⟩:=h
        have q':v = .bl true:=q
        subst q'
        obtain rfl:u=Value.bool true:=r'
        refine ⟨rfl,OldK.of_keep fun b o e=>?_,os,bare⟩
        cases q:H b with
        | none=>exact un.keep b o e q (by intro z; exact absurd (show b∈([]:List Addr) from z) (by simp)) (by simp)
        | some u =>
          rcases hO b with z | ⟨ob,xs,z⟩
          · rw [q] at z; cases z
          · have z2:=un.lT b ob _ z
            obtain ⟨e1,_⟩:=cu b _ z
            obtain ⟨e2,_⟩:=Ni b _ z2
            rw [e] at e1; cases e1
            exact e2
  cases hk:K.lookup a with
  | some o =>
    have e:=KX a o hk
    rw [ha] at e
    cases e
    refine I0 (fun _=>none) (fun _=>.inl rfl) (.inr ⟨_,vs.toArray,_,hk,rfl,rfl,rfl,by rw [aP,NE]; exact hl,by simpa using rv⟩) (fun b u z=>by have z':(none:Option HO)=some u:=z; cases z') (fun b z=>absurd rfl z) fun z=>absurd rfl z
  | none =>
    refine I0 (fun b=>if b=a then some (.frz { cls:=.type "list", data:=.seq vs.toArray } (.lst (ns.map V.int))) else none) (fun b=>?_) (.inl (.inr ⟨{ cls:=.type "list", data:=.seq vs.toArray },if_pos rfl⟩)) (fun b u z=>?_) (fun b z=>?_) fun _=>hk
    · by_cases hb:b=a
      · exact .inr ⟨_,_,if_pos hb⟩
      · exact .inl (if_neg hb)
    · by_cases hb:b=a
      · have z':=(if_pos hb).symm.trans z
        cases z'
        subst hb
        exact ⟨ha,by rw [aj]; exact hl,vs,_,rv,ha⟩
      · have z':=(if_neg hb).symm.trans z
        cases z'
    · by_cases hb:b=a
      · exact hb
      · exact absurd (if_neg hb) z
abbrev KOf{K:aa}{h:Heap}(_:K.In h):aa:=K
theorem EN{l:rK}{n k:Nat}{q:Program}{uJ:List Str}{XP:(Str->Option Value)->Heap->Prop}{YP:World->Heap->Prop}{d:DefRec}{K:Params->aa}{CX:World->mZ}{sp:World->Sp}{x:Str}(hn:l.most=some n)(Lz:n<=sizeLine)(Jq:d.params.defaults=[])(hr:e9 k callerA)(hY:∀(w:World)(h:Heap),YP w h->(K w.params).In h)(F:∀(w:World)(mg:Str->Option Value)(fa:Addr)(h:Heap),(K w.params).In h->h.Ns mainGlobals mg->mg d.name=some (.ref fa)->
      ∃fd:FuncData,(∀(s:Shared)(u:Value),BindsTo s fd ⟨[u],[]⟩ [(x,u)])/\
        ∀base:Heap,(K w.params).In base->base.Ns mainGlobals mg->nh l.prog w (K w.params) mg base (CX w) k fa fd [x] (sp w))(m8:∀(w:World)(H:Hp)(a:Addr)(ns:List Int),ns.length<=n->Gk H->iO (K w.params) H a (ns.map V.int)->sp w [.ref a] H (fun v _=>v= .bl true) fun _ _ _=>False)(M2:∀(w:World)(H:Hp)(s:Shared)(e:Value)(s':Shared),CX w [] H s (fun _ _ _=>False) e s'->False):
    EY q uJ XP YP l.row.toRowW d [] (fun f vs=>BQ f vs):=by
  refine Pg.wE hn Jq fun w s₀ s₁ mg mb fa o pm cd kK a vs ns G Y ho hd lB Ju GI Cd gh hg=>?_;have KX:=hY w _ Y;obtain⟨fd,hb,hF⟩:=F w mg fa _ KX G.T.g Ju;exact Cp KX G.T.g G.T.b G.T.builtins G.T.nolimit hg GI Cd (bf gh Lz) hr hF hb (fun H hO hS=>m8 w H a ns gh hO hS) fun H e s'=>M2 w H s₁ e s'
def gY(s:Stmt)(j:Nat):Stmt:=match s with
 | .ClassDef _ _ _ body _ _ _ _ _ _ _=>body.getD j (.Pass ⟨0,0,0,0⟩)
 |_=>.Pass ⟨0,0,0,0⟩
def tH(s:Stmt):Arguments:=match s with
 | .FunctionDef _ a _ _ _ _ _ _ _ _=>a
 |_=>{posonlyargs:=[],args:=[],vararg:=none,kwonlyargs:=[],kw_defaults:=[],kwarg:=none,defaults:=[]}
def lY(s:Stmt):List Stmt:=match s with
 | .FunctionDef _ _ b _ _ _ _ _ _ _=>b
 |_=>[]
def b8(s:Stmt):Scope:=match s with
 | .FunctionDef _ _ _ _ _ _ sc _ _ _=>sc
 |_=>{kind:=.function,names:=[],isGenerator:=false,isCoroutine:=false}
abbrev HJ:mZ:=fun _ _ _ _ _ _=>False
abbrev E0:XK:=fun _ _ _=>False
structure EU(K:aa)(x bF:Str)(st:Stmt)(f:Addr)(fd:FuncData):Prop where
 ex:∃(oc:Value)(od:Option Addr)(kV kK pm:Value)(an:Option Addr)(bL ct:Value)(nX:Array (Option Value)),
  fd=aT x bF (tH st) (lY st) (b8 st) .none kV kK pm an bL ct/\K.lookup f=some ⟨oc,od,.func fd,nX⟩/\bD K bL bF=true
 kp:ay K (.ref f)=true
section
variable{P:Program}{w:World}{K:aa}{mg:Str->Option Value}{base:Heap}
theorem EU.ok{x bF:Str}{st:Stmt}{f:Addr}{fd:FuncData}{N ps:List Str}{k:Nat}{sp:Sp}(F:EU K x bF st f fd)(S:au N ps (b8 st))(len:∀vs H Q E,sp vs H Q E->vs.length=ps.length)(fR:∀(bL:Value)(A:Around)(outer:List Env)(s:Shared)(H:Hp)(vs:List V)(Q:VK)(E:XK),e9 k (A.deeper (envOfC bF (b8 st) s.heap.objs.size f bL))->sp vs H Q E->
      ∃t,qU (ku HJ P w K mg base N bF (b8 st) f bL A outer s H E).xR (lY st) t/\t {nx:=fun _ H'=>Q .non H',rt:=Q} (start N vs) H):nh P w K mg base HJ (k+1) f fd ps sp:=by
  obtain⟨oc,od,kV,kK,pm,an,bL,ct,nX,rfl,lk,lB⟩:=F.ex;refine nG lk lB S len fun A outer s H vs Q E hr m8=>?_;obtain⟨t,h,q⟩:=fR bL A outer s H vs Q E hr m8;exact⟨t,h.xR,q⟩
theorem EU.binds{x bF:Str}{st:Stmt}{f:Addr}{fd:FuncData}{ps:List Str}(F:EU K x bF st f fd)(h:∀(kV kK pm:Value)(an:Option Addr)(bL ct:Value)(us:List Value),us.length=ps.length->bindArgs (aT x bF (tH st) (lY st) (b8 st) .none kV kK pm an bL ct) ⟨us,[]⟩=pure (ps.zip us)):Binds K fd ps []:=by
  obtain⟨oc,od,kV,kK,pm,an,bL,ct,nX,rfl,lk,lB⟩:=F.ex;exact .all (h kV kK pm an bL ct)
theorem F6{x bF:Str}{st:Stmt}{f:Addr}{oc:Value}{od an:Option Addr}{nX:Array (Option Value)}{kV kK pm bL ct:Value}(l:K.lookup f=some ⟨oc,od,.func (aT x bF (tH st) (lY st) (b8 st) .none kV kK pm an bL ct),nX⟩)(c:bD K bL bF=true)(k:ay K (.ref f)=true):EU K x bF st f (aT x bF (tH st) (lY st) (b8 st) .none kV kK pm an bL ct):=⟨⟨oc,od,kV,kK,pm,an,bL,ct,nX,rfl,l,c⟩,k⟩
end
theorem gO{A:Around}{k:Nat}(hr:e9 k A):A.units+1<cLine:=DZ (Nat.add_le_add_left (by decide:1<=64) _) hr.units
section
variable{X:Cx}
theorem pv(i:Nat){x:Str}{pos:Pos}(hN:X.N[i]?=some x:=by rfl)(hv:ML X.env.scope x:=by first|exact Or.inl rfl|exact Or.inr (Or.inl rfl) |exact Or.inr (Or.inr rfl))(hd:(x ==("__debug__":Str))=false:=by decide)(lB:(x ==("__classdict__":Str))=false:=by decide):PE X (.Name x pos) (qM i):=zxx hN hv hd lB
end
theorem cy{c A B:Prop}[Decidable c](h1:c->A)(h2:¬c->B):if c then A else B:=by
 by_cases h:c
 ·rw[if_pos h];exact h1 h
 ·rw[if_neg h];exact h2 h
def aQ(H H':Hp):Prop:=∀b o,H b=some o->H' b=some o
theorem aQ.refl(H:Hp):aQ H H:=fun _ _ h=>h
theorem aQ.trans{H H1 H2:Hp}(a:aQ H H1)(b:aQ H1 H2):aQ H H2:=fun c o h=>b c o (a c o h)
theorem aQ.free{H H':Hp}(e:aQ H H'){l:Addr}(h:H' l=Option.none):H l=Option.none:=by
 cases q:H l with
 |none=>rfl
 |some o=>
  rw[e l o q]at h;cases h
theorem aQ.seq{K:aa}{H H':Hp}{a:Addr}{xs:List V}(e:aQ H H')(h:iO K H a xs):iO K H' a xs:=by
 rcases h with(h|⟨o,h⟩) |h
 ·exact .inl (.inl (e _ _ h))
 ·exact .inl (.inr ⟨o,e _ _ h⟩)
 ·exact .inr h
end L2
set_option maxHeartbeats 4000000
namespace L2
open PySem PySem.Spec PyProof.Rows
theorem HZ{α:Type}{P:List α->Prop}{n:Nat}(h:∀x r,r.length=n->P (x::r)):∀us:List α,us.length=n+1->P us
 |[],e=>absurd e (by simp)
 |x::r,e=>h x r (by simpa using e)
theorem Vd{α:Type}{P:List α->Prop}(h:P []):∀us:List α,us.length=0->P us
 |[],_=>h
 |_::_,e=>absurd e (by simp)
theorem yg{α:Type}{P:List α->Prop}(h:∀x0,P [x0]):∀us:List α,us.length=1->P us:=HZ fun x r e=>Vd (P:=fun r=>P (x::r)) (h x) r e
theorem v8{α:Type}{P:List α->Prop}(h:∀x0 x1,P [x0,x1]):∀us:List α,us.length=2->P us:=HZ fun x r e=>yg (P:=fun r=>P (x::r)) (h x) r e
theorem xM{α:Type}{P:List α->Prop}(h:∀x0 x1 x2,P [x0,x1,x2]):∀us:List α,us.length=3->P us:=HZ fun x r e=>v8 (P:=fun r=>P (x::r)) (h x) r e
theorem zv{α:Type}{P:List α->Prop}(h:∀x0 x1 x2 x3,P [x0,x1,x2,x3]):∀us:List α,us.length=4->P us:=HZ fun x r e=>xM (P:=fun r=>P (x::r)) (h x) r e
theorem Ve{α:Type}{P:List α->Prop}(h:∀x0 x1 x2 x3 x4,P [x0,x1,x2,x3,x4]):∀us:List α,us.length=5->P us:=HZ fun x r e=>zv (P:=fun r=>P (x::r)) (h x) r e
theorem Av{α:Type}{P:List α->Prop}(h:∀x0 x1 x2 x3 x4 x5,P [x0,x1,x2,x3,x4,x5]):∀us:List α,us.length=6->P us:=HZ fun x r e=>Ve (P:=fun r=>P (x::r)) (h x) r e
end L2
namespace Sw
def dv(a b:Int):Int:=(Int.gcd a b:Nat)
theorem zu(a b:Int):0<=dv a b:=pZ _
theorem ve(a b:Int):dv a b∣a:=Int.gcd_dvd_left a b
theorem qq(a b:Int):dv a b∣b:=Int.gcd_dvd_right a b
theorem zwq(a b:Int):dv a b=dv b a:=by unfold dv;rw[Int.gcd_comm]
theorem Mj(a b:Int):dv (-a) b=dv a b:=by unfold dv;rw[Int.neg_gcd]
theorem TW(a b:Int):dv a (-b)=dv a b:=by unfold dv;rw[Int.gcd_neg]
theorem Eb(a:Int)(h:0<=a):dv a 0=a:=by unfold dv;rw[Int.gcd_zero_right];omega
theorem zyg{a b:Int}(h:dv a b=0):a=0/\b=0:=by unfold dv at h;exact Int.gcd_eq_zero_iff.mp (by omega)
theorem vf{a b:Int}(h:b≠0):0<dv a b:=by
 have:=zu a b;rcases Int.lt_or_eq_of_le this with q|q
 ·exact q
 ·exact absurd (zyg q.symm).2 h
theorem Ur{a b c:Int}(h1:c∣a)(h2:c∣b):c∣dv a b:=Int.dvd_coe_gcd h1 h2
theorem zyh{a b c d:Int}(h:∀x:Int,(x∣a/\x∣b)↔(x∣c/\x∣d)):dv a b=dv c d:=by have h1:dv a b∣dv c d:=Ur ((h _).mp ⟨ve a b,qq a b⟩).1 ((h _).mp ⟨ve a b,qq a b⟩).2;have h2:dv c d∣dv a b:=Ur ((h _).mpr ⟨ve c d,qq c d⟩).1 ((h _).mpr ⟨ve c d,qq c d⟩).2;exact Gb (zu _ _) (zu _ _) h1 h2
theorem Ea(a b:Int):dv b (a % b)=dv a b:=by
 refine zyh fun x=>⟨fun⟨h1,h2⟩=>⟨?_,h1⟩,fun⟨h1,h2⟩=>⟨h2,?_⟩⟩
 ·have e:=Int.mul_ediv_add_emod a b;rw[<-e];exact Int.dvd_add (Int.dvd_trans h1 (EV b _)) h2
 ·rw[Int.emod_def];exact Int.dvd_sub h1 (Int.dvd_trans h2 (EV b _))
theorem Gs(a b:Int):dv (if a<0 then -a else a) (if b<0 then -b else b)=dv a b:=by split <;> split <;> simp only[Mj,TW]
theorem Zj(g a b:Int)(h:0<=g):dv (g*a) (g*b)=g*dv a b:=by
 unfold dv;rw[Int.gcd_mul_left];have:((g.natAbs*a.gcd b:Nat):Int)=(g.natAbs:Int)*(a.gcd b:Nat):=by simp
 rw[this];congr 1;omega
theorem zwr{a b:Int}(h:dv a b≠0):dv (a / dv a b) (b / dv a b)=1:=by
 have hp:0<dv a b:=by have:=zu a b;omega
 have e1:a=dv a b*(a / dv a b):=(BJ (ve a b)).symm;have e2:b=dv a b*(b / dv a b):=(BJ (qq a b)).symm;have e:dv a b=dv a b*dv (a / dv a b) (b / dv a b):=by have:=Zj (dv a b) (a / dv a b) (b / dv a b) (lJ hp);rw[<-e1,<-e2]at this;exact this
 have e':dv a b*1=dv a b*dv (a / dv a b) (b / dv a b):=by rw[Int.mul_one];exact e
 exact(Int.eq_of_mul_eq_mul_left (by omega) e').symm
structure Fr(n d:Int):Prop where
 pos:0<d
 low:dv n d=1
theorem Ml{n d x:Int}(h:dv n d=1)(q:d∣n*x):d∣x:=by
 have h':BL d.natAbs n.natAbs:=by
  unfold dv at h;have:Int.gcd n d=1:=by omega
  unfold BL;rw[Nat.gcd_comm];exact this
 have q':d.natAbs∣n.natAbs*x.natAbs:=by rw[<-nj];exact mG.mpr q
 exact mG.mp (h'.dvd_of_dvd_mul_left q')
theorem Fr.uniq{n d m e:Int}(h:Fr n d)(k:Fr m e)(q:n*e=m*d):n=m/\d=e:=by have h1:d∣e:=Ml h.low ⟨m,by rw[q,g9]⟩;have h2:e∣d:=Ml k.low ⟨n,by rw[<-q,g9]⟩;have e1:d=e:=Gb (lJ h.pos) (lJ k.pos) h1 h2;subst e1;have:=h.pos;exact⟨wu (by omega) q,rfl⟩
def rN(t b:Int):Int:=if b<0 then t / (-(dv t b))else t / dv t b
def rD(t b:Int):Int:=if b<0 then b / (-(dv t b))else b / dv t b
theorem CK{t b:Int}:rN t b*(if b<0 then -(dv t b)else dv t b)=t:=by
 unfold rN;split
 ·exact jf (uu.mpr (ve t b))
 ·exact jf (ve t b)
theorem CI{t b:Int}:rD t b*(if b<0 then -(dv t b)else dv t b)=b:=by
 unfold rD;split
 ·exact jf (uu.mpr (qq t b))
 ·exact jf (qq t b)
theorem Sy{t b:Int}(h:b≠0):rN t b*b=rD t b*t:=by
 have e1:=CK (t:=t) (b:=b);have e2:=CI (t:=t) (b:=b);generalize(if b<0 then -(dv t b)else dv t b)=c at e1 e2
 calc rN t b*b=rN t b*(rD t b*c):=by rw[e2]
  _=rD t b*(rN t b*c):=by rw[<-iJ,<-iJ,g9 (rN t b)]
  _=rD t b*t:=by rw[e1]
theorem vF{t b:Int}(h:b≠0):Fr (rN t b) (rD t b):=by
 have hp:=vf (a:=t) h;refine⟨?_,?_⟩
 ·unfold rD;by_cases hb:b<0
  ·rw[if_pos hb,Ak];obtain⟨k,hk⟩:=qq t b;have:b / dv t b=k:=vY (by omega) hk;rw[this];rcases lK k 0 with q|q
   ·omega
   ·have:=Int.mul_nonneg (lJ hp) q;omega
  ·rw[if_neg hb];obtain⟨k,hk⟩:=qq t b;have:b / dv t b=k:=vY (by omega) hk;rw[this];rcases lK 0 k with q|q
   ·exact q
   ·have:=Int.mul_nonneg_of_nonpos_of_nonpos (a:=-(dv t b)) (b:=k) (by omega) q;rw[Int.neg_mul]at this;omega
 ·have q:=zwr (a:=t) (b:=b) (by omega);unfold rN rD;by_cases hb:b<0
  ·rw[if_pos hb,if_pos hb,Ak,Ak,Mj,TW];exact q
  ·rw[if_neg hb,if_neg hb];exact q
theorem Td{t b n d:Int}(h:b≠0)(f:Fr n d)(q:n*b=d*t):rN t b=n/\rD t b=d:=by
 refine Fr.uniq (vF h) f ?_;have e:=Sy (t:=t) h;have hb:b≠0:=h;refine wu hb ?_
 calc rN t b*d*b=(rN t b*b)*d:=by rw[iJ,g9 d b,<-iJ]
  _=rD t b*t*d:=by rw[e]
  _=rD t b*(d*t):=by rw[iJ,g9 t d]
  _=rD t b*(n*b):=by rw[q]
  _=n*rD t b*b:=by rw[<-iJ,g9 (rD t b) n]
def Sz(n:Nat)(x:Int):Prop:=x.natAbs<2^n
theorem Sz.mono{m n:Nat}{x:Int}(h:Sz m x)(hm:m<=n):Sz n x:=av h (iN (by decide) hm)
theorem Sz.mul{m n:Nat}{x y:Int}(h:Sz m x)(k:Sz n y):Sz (m+n) (x*y):=by
 unfold Sz at*;rw[nj,Nat.pow_add];by_cases hy:y.natAbs=0
 ·rw[hy,Nat.mul_zero];exact Nat.mul_pos (u8 m) (u8 n)
 ·exact Nat.mul_lt_mul_of_lt_of_lt h k
theorem Sz.add{n:Nat}{x y:Int}(h:Sz n x)(k:Sz n y):Sz (n+1) (x+y):=by unfold Sz at*;rw[An];omega
theorem Sz.sub{n:Nat}{x y:Int}(h:Sz n x)(k:Sz n y):Sz (n+1) (x-y):=by unfold Sz at*;rw[An];omega
theorem Sz.neg{n:Nat}{x:Int}(h:Sz n x):Sz n (-x):=by unfold Sz at*;omega
theorem Sz.le{n:Nat}{x y:Int}(h:Sz n y)(k:x.natAbs<=y.natAbs):Sz n x:=DZ k h
theorem Sz.zero(n:Nat):Sz n 0:=u8 n
theorem Sz.dvd{n:Nat}{x y:Int}(h:Sz n y)(d:x∣y)(hy:y≠0):Sz n x:=by refine h.le ?_;exact Nat.le_of_dvd (by omega) (mG.mpr d)
end Sw
namespace Sw
theorem Sz.lit{x:Int}(h:x.natAbs<1606938044258990275541962092341162602522202993782792835301376):Sz 5000 x:=by
 have e:(2:Nat)^200=1606938044258990275541962092341162602522202993782792835301376:=by decide
 exact av (by rw[e];exact h) (iN (by decide) (by decide:200<=5000))
end Sw
namespace Sw
end Sw
namespace Sw
theorem Sz.Wd{x:Int}(h1:-100000000000000000000<x)(h2:x<100000000000000000000):Sz 70 x:=by
 have e:(2:Nat)^70=1180591620717411303424:=by decide
 unfold Sz;rw[e];omega
theorem Sz.one(n:Nat):Sz (n+1) 1:=by unfold Sz;exact av (by decide:DU 1<2^1) (iN (by decide) (by omega))
end Sw
namespace L2
open PySem PySem.Spec PyProof.Rows
theorem Se{n:Nat}{x:Int}(h:Sw.Sz n x):Builtin.Int.intBits x<=n:=by
 unfold Builtin.Int.intBits;split
 ·exact di _
 ·rename_i hx
  have hx':x≠0:=by simpa using hx
  have:x.natAbs.log2<n:=(BN (by omega)).mpr h;omega
def ES(i j:Int):Prop:=Sw.Sz 5000 i/\Sw.Sz 5000 j
def ER(i j:Int):Prop:=0<j/\Sw.Sz 5000 j
def II(i j:Int):Prop:=j≠0/\Sw.Sz 5000 j
theorem SA{i j:Int}(h0:j≠0)(h:Sw.Sz 5000 j):Builtin.divisionGoesByPylong i j=false:=by refine PyProof.noPylong_of_log2 ?_;have:j.natAbs.log2<5000:=(BN (by omega)).mpr h;omega
section
variable{X:Cx}
theorem DJ:l0 X (binaryOp .Mult) (rI ES fun i j=>.int (i*j)):=JT fun _ _ _ _ _ _ _ hc q=>
 mul_int q (IntMulOk.of_bits (bf (Se hc.1) (by decide)) (bf (Se hc.2) (by decide)))
theorem Zk:l0 X (binaryOp .FloorDiv) (rI ER fun i j=>.int (i / j)):=JT fun i j _ _ _ _ _ hc q=>by have h1:(0:Int)<j:=hc.1;exact floordiv_int (by omega) (by rw[Int.fdiv_eq_ediv_of_nonneg i (by omega)];exact q) (.inl (SA (by omega) hc.2))
theorem Te:l0 X (binaryOp .FloorDiv) (rI II fun i j=>.int (i.fdiv j)):=JT fun _ _ _ _ _ _ _ hc q=>floordiv_int hc.1 q (.inl (SA hc.1 hc.2))
def IZ:V->Option Value
 | .ty n=>some (.type n)
 | .ref a=>some (.ref a)
 |_=>none
structure ko(P:Program)(w:World)(K:aa)(mg:Str->Option Value)(base:Heap)(CX:mZ)(k:Nat)(x:Str)(ps:List Str)(sp:Sp):Prop where
 ex:∃(f:Addr)(fd:FuncData),nh P w K mg base CX k f fd ps sp/\Binds K fd ps []/\ay K (.ref f)=true/\mg x=some (.ref f)
structure jF(K:aa)(mg:Str->Option Value)(x:Str)(st:Stmt)(ps:List Str):Prop where
 ex:∃(f:Addr)(fd:FuncData),EU K x x st f fd/\Binds K fd ps []/\mg x=some (.ref f)
end
end L2
namespace L2
theorem SD{c:TT}{tb:TS}{D:Ends}{σ:St}{H:Hp}(Pv:St->Hp->Prop)(μ:St->Hp->Nat)(h0:Pv σ H)(hs:∀σ H,Pv σ H->∃b:Bool,(∀Q:Bool->Hp->Prop,Q b H->c σ H Q)/\(b=true->tb {D with nx:=fun σ' H'=>Pv σ' H'/\μ σ' H' < μ σ H,ct:=fun σ' H'=>Pv σ' H'/\μ σ' H' < μ σ H,bk:=D.nx} σ H)/\(b=false->D.nx σ H)):Pa c tb D σ H:=by
  refine⟨fun m σ H=>m=μ σ H/\Pv σ H,⟨_,rfl,h0⟩,?_⟩;rintro m σ H ⟨rfl,p⟩;obtain⟨b,hc,h1,h2⟩:=hs σ H p;refine hc _ ?_;cases b with
  |true=>exact⟨_,fun σ' H' ⟨p',l⟩=>⟨_,l,rfl,p'⟩,h1 rfl⟩
  |false=>exact h2 rfl
end L2
namespace L2
open PySem PySem.Spec PyProof.Rows
theorem Aa{X:Cx}{x:Str}{n:Int}{pos:Pos}(hg:Gl X x)(hm:∃t,X.mg x=some (.int n t))(hd:(x ==("__debug__":Str))=false:=by decide):PE X (.Name x pos) (tC (.int n)):=by obtain⟨t,hm⟩:=hm;exact uU hg hm ⟨t,rfl⟩ hd
def zN(K:aa):Sp:=fun vs H Q _=>∃(a:Addr)(ns:List Int),vs=[.ref a]/\iO K H a (ns.map V.int)/\ns.length<=63/\∀H',Q (.bl true) H'
def yR(g:Int->Int):Sp:=fun vs H Q _=>∃a,vs=[.int a]/\Q (.int (g a)) H
def vI(g:Int->Int->Int):Sp:=fun vs H Q _=>∃a b,vs=[.int a,.int b]/\Q (.int (g a b)) H
def nE(ns:List Int)(k:Int):Int:=(ns[k.toNat]?).getD 0
inductive yQ(K:aa)(vs:List V)(H:Hp)(Q:VK)(E:XK):Prop|mk (a ns k:_) (h1:vs=[.ref a,.int k]) (h2:iO K H a (ns.map V.int)) (h3:0<=k) (h4:Q (.int (nE ns k)) H):yQ K vs H Q E
theorem Yo{ns:List Int}{k:Int}(h0:0<=k)(h:k<ns.length):As (ns.map V.int) k=some (V.int (nE ns k)):=by
 have e:((k.toNat:Nat):Int)=k:=by omega
 have hl:k.toNat<ns.length:=by omega
 have q:(ns.map V.int)[k.toNat]?=some (V.int (nE ns k)):=by rw[dO];unfold nE;rw[gu hl];rfl
 have:=Mi q;rw[e]at this;exact this
theorem X0{ns:List Int}{k:Int}(h0:0<=k)(h:¬k<ns.length):nE ns k=0:=by unfold nE;rw[lZ (by omega)];rfl
def vJ:Sp:=fun vs H Q _=>∃n,vs=[.int n]/\Q (.bl true) H
end L2
namespace L2
theorem bU{t u:TS}{D:Ends}{σ:St}{H:Hp}(h:∀R:St->Hp->Prop,(∀σ H,u D σ H->R σ H)->t {D with nx:=R} σ H):c9 t u D σ H:=h (u D) fun _ _ x=>x
end L2
namespace L2
open PySem PySem.Spec PyProof.Rows
theorem SE{K:aa}{H:Hp}{a:Addr}{ns:List Int}{k:Int}{Q:VK}{E:XK}(hS:iO K H a (ns.map V.int))(h0:0<=k)(q:Q (.int (nE ns k)) H):yQ K [.ref a,.int k] H Q E:=⟨a,ns,k,rfl,hS,h0,q⟩
end L2
namespace L2
theorem ux{a b:Int}(h1:a.natAbs<1606938044258990275541962092341162602522202993782792835301376)(h2:b.natAbs<1606938044258990275541962092341162602522202993782792835301376):ES a b:=⟨Sw.Sz.lit h1,Sw.Sz.lit h2⟩
theorem uw{a b:Int}(h0:0<b)(h2:b.natAbs<1606938044258990275541962092341162602522202993782792835301376):ER a b:=⟨h0,Sw.Sz.lit h2⟩
end L2
namespace L2
open PySem
theorem nM{n:Nat}(h:n<=1000):n<=sizeLine:=bf h (by decide)
theorem iG{n:Nat}(h:n<1000):n<sizeLine:=av h (by decide)
theorem j0{K:aa}{H:Hp}{p:Addr}{xs:List V}{i:Int}{v:V}{Q:VK}(hT:p9 K H p xs)(h:As xs i=some v)(q:Q v H):A1 K (.ref p) (.int i) H Q:=⟨p,xs,i,v,rfl,rfl,hT,h,q⟩
theorem Bf{K:aa}{H:Hp}{p:Addr}{xs:List V}{i:Int}{v:V}{Q:VK}(hT:iO K H p xs)(h:As xs i=some v)(q:Q v H):Ey K (.ref p) (.int i) H Q:=⟨p,xs,i,v,rfl,rfl,hT,h,q⟩
end L2
namespace L2
open PySem PySem.Spec PyProof.Rows
end L2
namespace L2
theorem Nu{c A B:Prop}[Decidable c](hc:¬c)(h:B):if c then A else B:=by rw[if_neg hc];exact h
end L2
namespace L2
end L2
namespace L2
open PySem PySem.Spec PyProof.Rows
mutual
inductive mF(K:aa)(H:Hp):V->PyData->Prop
 |non:mF K H .non .none
 |bl (b:Bool):mF K H (.bl b) (.bool b)
 |int (i:Int):mF K H (.int i) (.int i)
 |str (x:Str):mF K H (.str x) (.str x)
 |tup {a:Addr} {xs:List V} {ds:List PyData}:p9 K H a xs->li K H xs ds->mF K H (.ref a) (.tuple ds)
 |lst {a:Addr} {xs:List V} {ds:List PyData}:iO K H a xs->li K H xs ds->mF K H (.ref a) (.list ds)
inductive li(K:aa)(H:Hp):List V->List PyData->Prop
 |nil:li K H [] []
 |cons {x:V} {d:PyData} {xs:List V} {ds:List PyData}:mF K H x d->li K H xs ds->li K H (x::xs) (d::ds)
end
section
variable{X:Cx}{ae:List (Addr×Obj)}{σ:St}{H:Hp}{s:Shared}
mutual
theorem Ox(I:Inv X ae σ H s):∀{x:V}{d:PyData}{u:Value},mF X.K H x d->RelV x u->∃as,Reads s.heap u d as
 |_,_,u,.non,r=>by cases(show u=Value.none from r);exact⟨_,.none⟩
 |_,_,u,.bl b,r=>by cases(show u=Value.bool b from r);exact⟨_,.bool b⟩
 |_,_,u,.int i,r=>by obtain⟨t,rfl⟩:=(show ∃t,u=Value.int i t from r);exact⟨_,.int i t⟩
 |_,_,u,.str x,r=>by obtain⟨t,rfl⟩:=(show ∃t,u=Value.str x t from r);exact⟨_,.str x t⟩
 |_,_,u,.tup (a:=a) q h,r=>by
  cases(show u=Value.ref a from r);obtain⟨dJ,rv,⟨o,e,c,n,d⟩,hz⟩:=I.tuple q
  obtain⟨as,ra⟩:=Oq I h rv;exact⟨as,reads_tuple_at e c d (by simpa using ra)⟩
 |_,_,u,.lst (a:=a) q h,r=>by
  cases(show u=Value.ref a from r);obtain⟨dJ,rv,⟨o,n,e,c,_,d⟩,hz⟩:=I.list q
  obtain⟨as,ra⟩:=Oq I h rv;exact⟨_,reads_list_at e c d (by simpa using ra)⟩
theorem Oq(I:Inv X ae σ H s):∀{xs:List V}{ds:List PyData}{us:List Value},li X.K H xs ds->bP xs us->∃as,ReadsAll s.heap us ds as
 |_,_,_,.nil,.nil=>⟨_,.nil⟩
 |_,_,_,.cons d h,.cons r t=>by obtain⟨as,q⟩:=Ox I d r;obtain⟨bs,p⟩:=Oq I h t;exact⟨_,.cons q p⟩
end
end
section
variable{X:Cx}
def Ex(K:aa):R2:=fun x y H Q=>∃d e,mF K H x d/\mF K H y e/\fO d=true/\fO e=true/\Q (.bl (PyData.eqv d e)) H
theorem zyi(hu:X.A.units+64<cLine):l0 X (compareOp .Eq) (Ex X.K):=by intro ae s σ H x y v u Q I rx ry h;obtain⟨d,e,hd,he,sd,se,q⟩:=h;obtain⟨as,ra⟩:=Ox I hd rx;obtain⟨bs,rb⟩:=Ox I he ry;exact eq_dataH ra rb sd se hu ⟨.bl _,H,I,rfl,q⟩
end
theorem aQ.Ke{K:aa}{H H':Hp}{a:Addr}{xs:List V}(e:aQ H H')(h:p9 K H a xs):p9 K H' a xs:=by
 rcases h with h|h
 ·refine .inl ?_;rcases h with h|⟨o,h⟩
  ·exact .inl (e _ _ h)
  ·exact .inr ⟨o,e _ _ h⟩
 ·exact .inr h
theorem dZ{H:Hp}{a:Addr}{o:HO}(h:H a=none):aQ H (aB H a o):=fun b u e=>by rw[bw (gq e h)];exact e
def IM (K:aa) (a:Addr):It :=
  ⟨fun i H=>∃ xs x,iO K H a xs/\xs[i]? = some x,
   fun i H y H'=>∃ p x,y = .ref p/\H p=none/\(∀ xs,iO K H a xs->xs[i]? = some x)/\H'=aB H p (.tup [.int i,x]),
   fun i H=>∃ xs,iO K H a xs/\xs.length<=i⟩
theorem YO {P:Program} {w:World} {K:aa} {vg:List Expr} {x1} {pos:Pos} (a e it:Addr) (PV:e≠it) :
    Ar P w K (.Tuple vg x1 pos) (IM K a) [e,it] e (fun i h=>(∃ xS,IsEnum h e it ((i:Nat):Int) xS)/\h.IsListIter it a i) where
  mem:=by simp
  obj:=fun i h st b hb=>by
    obtain ⟨⟨xS,he⟩,uD⟩:=st
    rcases ah.mp hb with rfl | hb
    · exact ⟨_,he,fun v z=>by cases z⟩
    · have e:b=it:=by simpa using hb
      subst e
      obtain ⟨o,e,c,d⟩:=uD
      exact ⟨o,e,fun v z=>by rw [d] at z; cases z⟩
  keep:=fun i h h' st k=>by
    obtain ⟨⟨xS,he⟩,uD⟩:=st
    exact ⟨⟨xS,k e (by simp) _ he⟩,uD.at fun o q=>k it (by simp) o q⟩
  item:=by
    intro X hP hw hK hc i ae s σ H E I hf st hg
    subst hP hw hK
    obtain ⟨⟨xS,he⟩,uD⟩:=st
    obtain ⟨xs,x,hq,hx⟩:=hg
    obtain ⟨dJ,rv,p,hz⟩:=I.list hq
    obtain ⟨u,hu,ru⟩:=rv.get hx
    obtain ⟨f0,f1,f2,f3,f4,f5⟩:=hf e (by simp)
    obtain ⟨g0,g1,g2,g3,g4,g5⟩:=hf it (by simp)
    have PX:e<s.heap.objs.size:=Heap.lt_size he
    have Vz:it<s.heap.objs.size:=by obtain ⟨o,q,_⟩:=id uD; exact Heap.lt_size q
    refine wpAny_pyNext_enum_item he uD p.isList (x:=u) (by simpa using hu) PV fun h1 Fb Nc VN hz1 VA=>?_
    refine ⟨.ref s.heap.objs.size,rfl,wpAny_letOwnedTupleGo_enum Fb fun h2 M7 DA=>?_⟩
    have AE:Heap.SameBut e h1 h2:=DA
    have Nd:h2.IsListIter it a (i+1):=Nc.at fun o q=>(AE.2 it (bV PV)).trans q
    have fresh:H s.heap.objs.size=none:=I.cu.fresh (ao _)
    have GL:h2.get? s.heap.objs.size=some { cls:=.type "tuple", data:=.seq #[.int i s.toks,u] }:=(AE.2 _ (lO PX)).trans VN
    have Fl:∀ b v,H b=some v->b≠e/\b≠it:=fun b v q=>⟨fun z=>(by rw [z,f0] at q; cases q),fun z=>(by rw [z,g0] at q; cases q)⟩
    have k2:∀ b o,b≠e->b≠it->s.heap.get? b=some o->h2.get? b=some o:=fun b o n1 n2 q=>(AE.2 b n1).trans (VA b o n1 n2 q)
    have up:∀ b o,H b=some o->(aB H s.heap.objs.size (.tup [.int i,x])) b=some o:=fun b o q=>by rw [bw (gq q fresh)]; exact q
    have I2:Inv X ae σ (aB H s.heap.objs.size (.tup [.int i,x])) { s with heap:=h2,toks:=s.toks+1 }:=by
      refine I.step (g':=s.gens) (d':=s.drawn) (ch:=[e,it]) (fun b hb=>?_) (fun b o _ _ hc q _=>k2 b o (fun z=>hc (by simp [z])) (fun z=>hc (by simp [z])) q)
        (fun b o _ _ hc q _=>⟨o.slots,k2 b o (fun z=>hc (by simp [z])) (fun z=>hc (by simp [z])) q⟩) (fun b o _ q n=>by rw [bw (aJ (Heap.lt_size q))]; exact n)
        (fun b o hc q=>?_) (fun b ys q=>up b _ q) (fun b ob v q=>up b _ q) (fun b ps q=>⟨#[],by rw [up b _ q]; simp⟩) (fun m hm=>?_) (fun b v q=>?_) I.bare
      · rcases ah.mp hb with rfl | hb
        · exact ⟨f3,f1,f4,f5⟩
        · have z:b=it:=by simpa using hb
          subst z
          exact ⟨g3,g1,g4,g5⟩
      · exact ⟨o,k2 b o (fun z=>hc (by simp [z])) (fun z=>hc (by simp [z])) q⟩
      · obtain ⟨o,es,ep,ho,r⟩:=hm
        exact ⟨o,es,ep,k2 _ o (bV f1) (bV g1) ho,r⟩
      · by_cases hb:b=s.heap.objs.size
        · subst hb
          rw [bh] at q
          cases q
          exact ⟨by show 2<=sizeLine; decide,[.int i s.toks,u],.cons ⟨_,rfl⟩ (.cons ru .nil),_,GL,rfl,_,rfl⟩
        · rw [bw hb] at q
          refine (I.cu b v q).gm (fun c v' hc q'=>?_) (fun c z=>up c _ z) fun c ys z=>up c _ z
          have PU:c≠e/\c≠it:=by
            rcases hc with z | z
            · rw [z]; exact Fl b v q
            · exact Fl c _ z
          exact k2 c v' PU.1 PU.2 q'
    refine ⟨.ref s.heap.objs.size,_,I2,rfl,⟨s.heap.objs.size,x,rfl,fresh,fun ys hy=>by rw [I.wS hy hq]; exact hx,rfl⟩,⟨⟨u,by simpa using M7⟩,Nd⟩,fun b hb=>?_⟩
    rw [bw]
    · exact (hf b hb).1
    · intro z
      rcases ah.mp hb with y | y
      · rw [y] at z; exact absurd z (aJ PX)
      · have y:b=it:=by simpa using y
        rw [y] at z; exact absurd z (aJ Vz)
  done:=by
    intro X hP hw hK hc i ae s σ H E I hf st hg
    subst hP hw hK
    obtain ⟨⟨xS,he⟩,uD⟩:=st
    obtain ⟨xs,hq,hx⟩:=hg
    obtain ⟨dJ,rv,p,hz⟩:=I.list hq
    obtain ⟨g0,g1,g2,g3,g4,g5⟩:=hf it (by simp)
    have hl:=rv.length
    exact wpAny_pyNext_enum_end (I.ok.hd hc) he uD p.isList (by simp; omega) fun h' eb=>⟨rfl,I.turned (t':=s.toks) (fun b o hb q=>eb b o hb q) g0 g1 g3 g4 g5⟩
  self:=fun _ _ _ _ _ st h=>by
    obtain ⟨⟨xS,he⟩,_⟩:=st
    exact wpAny_pyIter_enum he h
section
variable{X:Cx}
def wN(K:aa)(ta:TA):TI:=fun σ H R=>ta σ H fun vs H1=>∃a,vs=[.ref a]/\(∃xs,iO K H1 a xs)/\R (IM K a) H1
theorem zws{l:Expr}{ta:TA}{p pos y9:Pos}{vg:List Expr}{x1}(hg:Gl X "enumerate")(hm:X.mg "enumerate"=none)(ha:PA X [l] ta)(hs:starEach [l] X.env=[(false,eval l X.env)]:=by rfl):
    PI X (.Tuple vg x1 y9) (.Call (.Name "enumerate" p) [l] [] pos) (wN X.K ta):=by
  intro ae s σ H R I h;refine Call_ (HE I hg hm boot_enumerate (e7 (d7 (ha pos ae s σ H _ I h) fun us s1⟨vs,H1,I1,r1,q1⟩=>?_) hs rfl));obtain⟨a,rfl,⟨xs,hq⟩,q⟩:=q1;obtain⟨u,rfl,r⟩:=bP.one r1;cases r
  obtain⟨dJ,rv,p,hz⟩:=I1.list hq;refine call_enumerate_list p.isList fun h' he uD hsz hk=>?_;refine wpAny_pyIter_enum he ?_;refine⟨s1.heap.objs.size+1,[s1.heap.objs.size+1,s1.heap.objs.size],_,_,H1,rfl,I1.kept (t':=s1.toks) hk,YO a _ _ (Gj _),⟨⟨_,he⟩,uD⟩,fun b hb=>?_,q⟩;rcases ah.mp hb with e|e
  · subst e;exact I1.Ax (gK _) (I1.cu.fresh (gK _))
  · have e:b=s1.heap.objs.size:=by simpa using e
    subst e;exact I1.Ax (ao _) (I1.cu.fresh (ao _))
end
theorem Zl{K:aa}{a:Addr}{xs:List V}{g:TG}{tb:TS}{D:Ends}{σ:St}{H:Hp}(Pv:Nat->St->Hp->Prop)(h0:Pv 0 σ H)(hl:∀i σ H,i<=xs.length->Pv i σ H->iO K H a xs)(hs:∀i x σ H p,xs[i]?=some x->Pv i σ H->H p=none->g (.ref p) σ (aB H p (.tup [.int i,x])) fun σ2 H2=>tb {D with nx:=Pv (i+1),ct:=Pv (i+1),bk:=D.nx} σ2 H2)(hd:∀σ H,Pv xs.length σ H->D.nx σ H):
    ∃W:Nat->Nat->St->Hp->Prop,(∃m,W 0 m σ H)/\∀i m σ H,W i m σ H->
      ((IM K a).stop i H/\D.nx σ H)\/((IM K a).go i H/\∃N:St->Hp->Prop,(∀σ' H',N σ' H'->∃m',m' < m/\W (i+1) m' σ' H')/\∀x H',(IM K a).F0 i H x H'->g x σ H' fun σ2 H2=>tb {D with nx:=N,ct:=N,bk:=D.nx} σ2 H2):=by
  refine⟨fun i m σ H=>m=xs.length-i/\i<=xs.length/\Pv i σ H,⟨xs.length,by simp,di _,h0⟩,?_⟩;rintro i m σ H ⟨rfl,hi,p⟩;have q:=hl i σ H hi p;by_cases oH:i<xs.length
  · refine .inr ⟨⟨xs,xs[i],q,by simp[oH]⟩,Pv (i+1),fun σ' H' p'=>⟨xs.length-(i+1),by omega,rfl,oH,p'⟩,fun y H' z=>?_⟩;obtain⟨b,x,rfl,hb,hx,rfl⟩:=z;exact hs i x σ H b (hx xs q) p hb
  · have e:i=xs.length:=by omega
    subst e;exact .inl ⟨⟨xs,q,ao _⟩,hd σ H p⟩
section
variable{prog:Program}{w:World}{A:Around}{R:Result->Shared->Prop}{s:Shared}
theorem Wn{Dv fX iter:Expr}{Bs:List Expr}{scope:Scope}{pos:Pos}{it BS:Value}{env:Env}(I:Nat->Shared->Prop)(za:∀n s,I n s->wpAny (model prog w) A (pyNext it) (fun r s₁=>match r with
      |none=>R (.ok .next) s₁
      |some v=>wpAny (model prog w) A (letOwnedTupleGo fX it v) (fun _ QK=>wpAny (model prog w) A (assign fX env v) (fun _ s₂=>
          wpAny (model prog w) A (forIn Bs true fun c r=>if r=true then do let ok <-isTrue c env (eval c env);pure (j1 ok)else pure (j1 r)) (fun ok s₃=>
            if ok=true then wpAny (model prog w) A (eval Dv env) (fun x s₄=>
              wpAny (model prog w) A (call (.builtin "list.append") [BS,x]) (fun _ s₅=>∃m,m<n/\I m s₅) (notedBy (model prog w) A env fun e s'=>R (.error e) s') s₄) (notedBy (model prog w) A env fun e s'=>R (.error e) s') s₃
            else ∃m,m<n/\I m s₃) (notedBy (model prog w) A env fun e s'=>R (.error e) s') s₂) (notedBy (model prog w) A env fun e s'=>R (.error e) s') QK) (notedBy (model prog w) A env fun e s'=>R (.error e) s') s₁) (notedBy (model prog w) A env fun e s'=>R (.error e) s') s)(n:Nat)(h:I n s):
    codeAny (model prog w) A (.compLoop (.ListComp Dv [⟨fX,iter,Bs,0⟩] scope pos) 0 it BS env) R s:=by
  refine codeAny_loop rfl I (fun n s hI=>?_) n h;show wpAny _ A ((compTurn (.ListComp Dv [⟨fX,iter,Bs,0⟩] scope pos) 0 it BS env).onRaise (fun x=>do noteFrame x env;theTreesLotGoes x)) _ _ s;refine wpAny_noted ?_;rw[compTurn_list];refine wpAny_bind (wpAny_standAt (wpAny_bind (wpAny_mono (za n s hI) (fun r s₁ h₁=>?_) fun _ _ h'=>h')));cases r with
  |none=>exact wpAny_pure h₁
  |some v=>
    refine wpAny_bind (wpAny_mono h₁ (fun _ QK VT=>?_) fun _ _ h'=>h');refine wpAny_bind (wpAny_mono VT (fun _ s₂ h₂=>wpAny_bind (wpAny_mono h₂ (fun ok s₃ h₃=>?_) fun _ _ h'=>h')) fun _ _ h'=>h');cases ok with
    |false=>exact wpAny_pure ⟨rfl,h₃⟩
    |true=>
      exact wpAny_bind (wpAny_bind (wpAny_mono h₃ (fun x s₄ h₄=>wpAny_bind (wpAny_mono h₄ (fun _ s₅ h₅=>wpAny_pure (wpAny_pure ⟨rfl,h₅⟩)) fun _ _ h'=>h')) fun _ _ h'=>h'))
end
def Ae(X:Cx)(scope:Scope)(cl:List (Str×Addr))(N:List Str)(fp:List Addr)(s:Shared)(H:Hp):Cx:=
 {X with N:=N,s₀:=s,H₀:=H,env:=compEnvC scope cl s.heap.objs.size X.env,outer:=X.stack,stack:=X.stack,ex:=fp,fn:=fun _=>false,pn:=[],xe:=fun _ _=>False}
def xX(X:Cx)(sc:Scope):List (Str×Nat)->Prop
 |[]=>True
 |p::r=>(X.N[p.2]?=some p.1/\sc.names.lookup p.1=some .cell/\X.env.kindOf p.1=some .cell)/\xX X sc r
theorem xX.mem{X:Cx}{sc:Scope}:∀{l:List (Str×Nat)},xX X sc l->∀p∈l,X.N[p.2]?=some p.1/\sc.names.lookup p.1=some .cell/\X.env.kindOf p.1=some .cell
 |[],_,p,hp=>nomatch hp
 |q::r,h,p,hp=>by
  rcases ah.mp hp with e|hp
  ·rw[e];exact h.1
  ·exact xX.mem h.2 p hp
def D4(X:Cx)(Bs:List Expr)(t:TT):Prop:=
 ∀(ae:List (Addr×Obj))(s:Shared)(σ:St)(H:Hp)(Q:Bool->Hp->Prop),Inv X ae σ H s->t σ H Q->
  wpAny (model X.prog X.w) X.A (forIn Bs true fun c r=>if r=true then do let ok <-isTrue c X.env (eval c X.env);pure (j1 ok)else pure (j1 r)) (TP X ae σ Q) X.xe s
def De:TT:=fun _ H Q=>Q true H
theorem KZ{X:Cx}:D4 X [] De:=fun _ _ _ H _ I h=>wpAny_tests_nil ⟨H,I,h⟩
theorem Tf{X:Cx}{c:Expr}{t:TT}(hc:PT X c t):D4 X [c] t:=fun ae s σ H Q I h=>wpAny_tests_one (hc ae s σ H Q I h)
def C8 (nt:Nat) (fr:List (Str×Nat)) (wi:TI) (g:TG) (tc:TT) (te:TE):TE:=fun σ H Q=>wi σ H fun J H1=>∀ D,H1 D=none->∃ W:Nat->Nat->St->Hp->Prop,
 (∃ m,W 0 m (g7 nt none++fr.map fun p=>(σ[p.2]?).join) (aB H1 D (.lst [])))/\∀ i m τ H',W i m τ H' ->
  (J.stop i H'/\Q (.ref D) H')\/(J.go i H'/\∃ N:St->Hp->Prop,(∀ τ' IK,N τ' IK->∃ m',m' < m/\W (i+1) m' τ' IK) /\
   ∀ x H2,J.F0 i H' x H2->g x τ H2 fun τ2 H3=>tc τ2 H3 fun b H4=>if b=true then te τ2 H4 fun y H5=>∃ ys,H5 D=some (.lst ys)/\ys.length<sizeLine/\N τ2 (aB H5 D (.lst (ys++[y]))) else N τ2 H4)
section
variable{X:Cx}
theorem Zm{scope:Scope}{cl:List (Str×Addr)}{ts:List Str}{fr:List (Str×Nat)}{fp:List Addr}{ae:List (Addr×Obj)}{σ:St}{H:Hp}{s:Shared}{h':Heap}{m:Str->Option Value}{t':Nat}(I:Inv X ae σ H s)(kP:scope.kind= .function)(wJ:∀x c,cl.lookup x=some c->X.env.cells.lookup x=some c)(Az:∀x,((relabel scope X.env).names.lookup x=some .cell\/(relabel scope X.env).names.lookup x=some .free)->∃c,cl.lookup x=some c)(Jt:xX X (relabel scope X.env) fr)(Js:∀b∈fp,u0 X ae H b/\b<s.heap.objs.size)(hn:h'.Ns s.heap.objs.size m)(hk:∀b o,s.heap.get? b=some o->h'.get? b=some o):
    Inv (Ae X scope cl (ts++fr.map (·.1)) fp s H) [] (g7 ts.length none++fr.map fun p=>(σ[p.2]?).join) H {s with heap:=h',toks:=t'}:=by
  have wF:∀c v,s.heap.IsCell c v->h'.IsCell c v:=fun c v⟨o,ho,hd⟩=>⟨o,hk c o ho,hd⟩;refine⟨⟨I.ok.mod,kP,I.ok.glob,I.ok.blt,ao _,fun x y c h1 h2=>I.ok.inj x y c (wJ x c h1) (wJ y c h2),Az,fun x c h=>(by cases h),I.ok.hd,I.ok.frames,.inl rfl,fun b hb=>?_,I.bs,bf I.ok.zo I.sz,fun b o e hb=>?_,fun b hb z=>?_,I.stack,I.vM⟩,
    rfl,I.bare,Un.kept hk,⟨m,hn,fun i x v e1 e2 e3=>?_⟩,fun x c e=>?_,I.cu.fresh (ao _),fun x c e=>I.ia x c (wJ x c e),fun p hp=>absurd (show p∈([]:List (Addr×Obj))from hp) (by simp),I.cu.kept hk,?_⟩
  · obtain⟨f,lt⟩:=Js b hb;exact⟨aJ lt,fun x c e=>f.2.2.2.2.1 x c (wJ x c e)⟩
  · obtain⟨f,lt⟩:=Js b hb;rcases f.2.2.2.1 with z|z
    · exact I.ok.vD b o e z
    · exact absurd (av (Heap.lt_size e) (bf I.ok.zo z)) (dU _)
  · obtain⟨f,lt⟩:=Js b hb;rcases ah.mp (I.pB b z)with y|y
    · exact f.2.1 y
    · exact f.2.2.1 y
  · have gh:(g7 ts.length (none:Option V)).length=ts.length:=by simp
    by_cases hi:i<ts.length
    · rw[wA (by rw[gh];exact hi),xZ,if_pos hi]at e2;cases e2
    · rw[jB (by rw[gh];omega),gh,dO]at e2;have MS:(ts++fr.map (·.1))[i]?=some x:=e1;rw[jB (by omega),dO]at MS;cases ep:fr[i-ts.length]? with
      |none=>rw[ep]at e2;cases e2
      |some p=>
        rw[ep]at MS e2;have ex:p.1=x:=aK MS;have ev:(σ[p.2]?).join=some v:=aK e2;obtain⟨a1,a2,a3⟩:=Jt.mem p (fL ep);have Vg:σ[p.2]?=some (some v):=by
          cases q:σ[p.2]? with
          |none=>rw[q]at ev;cases ev
          |some o=>rw[q]at ev;cases o with
            |none=>cases ev
            |some v'=>cases ev;rfl
        obtain⟨m',Bp,GF⟩:=I.loc;obtain⟨u,ru,lk⟩:=GF p.2 p.1 v a1 Vg (.inr (.inl a3));subst ex;refine⟨u,ru,?_⟩;rcases lk with⟨z,_⟩ |⟨_,c,ec,z⟩
        · rw[z]at a3;cases a3
        · obtain⟨c',Pu⟩:=Az p.1 (.inl a2);have Vc:c'=c:=aK ((wJ _ _ Pu).symm.trans ec);exact .inr ⟨.inl a2,c',Pu,(by rw[Vc];exact wF _ _ z)⟩
  · obtain⟨v,z⟩:=I.cell x c (wJ x c e);exact⟨v,wF _ _ z⟩
  · show _=(ts++fr.map (·.1)).length;simp
theorem zwt{Dv fX iter:Expr}{Bs:List Expr}{scope:Scope}{pos:Pos}{cl:List (Str×Addr)}{ts:List Str}{fr:List (Str×Nat)}{wi:TI}{g:TG}{tc:TT}{te:TE}(zy:X.calm=true)(Ca:closureFor scope X.env=pure cl)(uC:∀y∈scope.names,y.2≠.cell)(kP:scope.kind= .function)(yt:∀y∈scope.names,y.2= .local->scope.names.lookup y.1=some .local)(wJ:∀x c,cl.lookup x=some c->X.env.cells.lookup x=some c)(Az:∀x,((relabel scope X.env).names.lookup x=some .cell\/(relabel scope X.env).names.lookup x=some .free)->∃c,cl.lookup x=some c)(Jt:xX X (relabel scope X.env) fr)(hi:PI X fX iter wi)(hg:∀fp s H,PG (Ae X scope cl (ts++fr.map (·.1)) fp s H) fX g)(hc:∀fp s H,D4 (Ae X scope cl (ts++fr.map (·.1)) fp s H) Bs tc)(he:∀fp s H,PE (Ae X scope cl (ts++fr.map (·.1)) fp s H) Dv te)(hs:∀x,foldedSetIterable iter X.env x=pure x:=by intro _;rfl):
    PE X (.ListComp Dv [⟨fX,iter,Bs,0⟩] scope pos) (C8 ts.length fr wi g tc te):=by
  intro ae s σ H Q I h;rw[eval_ListComp];refine wpAny_comprehension_free (use:=none) rfl hs Ca kP yt (d7 (hi ae s σ H _ I h) fun xv s1 h1=>d7 h1 fun Nv s2 h2=>?_);obtain⟨it,fp,tn,J,H2,rfl,I2,T,LP,f2,hR⟩:=h2;have D0:H2 s2.heap.objs.size=none:=I2.cu.fresh (ao _);obtain⟨W,⟨m0,w0⟩,za⟩:=hR s2.heap.objs.size D0;refine wpAny_newObj_type (wpAny_newFunctionEnv uC (by intro y hy;simp at hy) (fun h₁ GH GK=>?_) kP);dsimp only at GH GK⊢;have I3:Inv X ae σ (aB H2 s2.heap.objs.size (.lst [])) {s2 with heap:=s2.heap.push {cls:=.type "list",dict:=none,data:=.seq ([]:List Value).toArray}}:=
    I2.laid (t':=s2.toks) (fun _ _ q=>Heap.get?_push_of_some _ q) (ao _) ⟨di _,[],0,.nil,Heap.get?_push_size _ rfl⟩;have Qq:∀b o,s2.heap.get? b=some o->(s2.heap.push {cls:=.type "list",dict:=none,data:=.seq ([]:List Value).toArray}).get? b=some o:=fun b o q=>Heap.get?_push_of_some _ q;have QJ:(s2.heap.push {cls:=.type "list",dict:=none,data:=.seq ([]:List Value).toArray}).objs.size=s2.heap.objs.size+1:=Heap.size_push ..;generalize s2.heap.push {cls:=.type "list",dict:=none,data:=.seq ([]:List Value).toArray}=tU at GH GK I3 Qq QJ⊢;have kp:∀b o,tU.get? b=some o->h₁.get? b=some o:=fun b o e=>GK.extBut b o (aJ (Heap.lt_size e)) (Heap.get?_push_of_some _ e);have flt:∀b∈fp,b<s2.heap.objs.size:=fun b hb=>by
    obtain⟨o,e,_⟩:=T.obj _ _ LP b hb;exact Heap.lt_size e
  have Jh:∀b∈fp,(aB H2 s2.heap.objs.size (.lst [])) b=none:=fun b hb=>by rw[bw (aJ (flt b hb))];exact(f2 b hb).1
  have f3:∀b∈fp,u0 X ae (aB H2 s2.heap.objs.size (.lst [])) b/\b<tU.objs.size:=fun b hb=>⟨⟨Jh b hb,(f2 b hb).2⟩,by rw[QJ];exact rJ (flt b hb)⟩;have I4:=Zm (ts:=ts) (t':=s2.toks+([]:List (Str×Value)).length) I3 kP wJ Az Jt f3 GH kp;have QI:tn 0 h₁:=T.keep _ _ _ LP fun b hb o e=>kp b o (Qq b o e);have JH:codeAny (model X.prog X.w) X.A (.compLoop (.ListComp Dv [⟨fX,iter,Bs,0⟩] scope pos) 0 (.ref it) (.ref s2.heap.objs.size) (compEnvC scope cl tU.objs.size X.env))
      (compPost (model X.prog X.w) X.A X.xe none (EP X ae σ Q) (.ref s2.heap.objs.size) tU.objs.size) {s2 with heap:=h₁,toks:=s2.toks+([]:List (Str×Value)).length}:=by
    refine Wn (fun n s'=>∃i τ H',Inv (Ae X scope cl (ts++fr.map (·.1)) fp {s2 with heap:=tU} (aB H2 s2.heap.objs.size (.lst []))) [] τ H' s'/\tn i s'.heap/\(∀b∈fp,H' b=none)/\W i n τ H') ?_ m0 ⟨0,_,_,I4,QI,Jh,w0⟩;rintro n s5 ⟨i,τ,H5,I5,Im,Lv,w5⟩;have yW:∀{H':Hp},(∀b∈fp,H' b=none)->∀b∈fp,u0 (Ae X scope cl (ts++fr.map (·.1)) fp {s2 with heap:=tU} (aB H2 s2.heap.objs.size (.lst []))) [] H' b:=
      fun hn b hb=>⟨hn b hb,(I5.ok.E6 b hb).1,I5.ok.vj b hb,.inl hb,(I5.ok.E6 b hb).2,fun p hp=>absurd (show p∈([]:List (Addr×Obj))from hp) (by simp)⟩;rcases za i n τ H5 w5 with⟨stop,qn⟩ |⟨go,Nn,hN,step⟩
    · refine d7 (T.done (Ae X scope cl (ts++fr.map (·.1)) fp {s2 with heap:=tU} (aB H2 s2.heap.objs.size (.lst []))) rfl rfl rfl zy i [] s5 τ H5 _ I5 (yW Lv) Im stop) fun r s6⟨hr,I6⟩=>?_;subst hr;obtain⟨m,hn,_⟩:=I6.loc;refine⟨m,hn,fun h' Ih=>⟨.ref s2.heap.objs.size,H5,?_,rfl,qn⟩⟩;have Fk:∀b o,tU.get? b=some o->b≠tU.objs.size:=fun b o e=>aJ (Heap.lt_size e);have El:Heap.SameBut tU.objs.size s6.heap h':=Ih;refine I3.E2 (s':={s6 with heap:=h'}) (ch:=fp) I6.os ⟨fun b o e n hb hx=>?_,fun b o e n hb hx=>?_,I6.base.free,fun b o e hx=>?_,I6.base.oz,I6.base.lT,I6.base.ou⟩ (fun b ob e=>?_) I6.bare (fun b hb=>?_)
      · exact(El.2 b (Fk b o e)).trans (I6.base.keep b o e n hb hx)
      · obtain⟨sl,q⟩:=I6.base.slot b o e n hb hx;exact⟨sl,(El.2 b (Fk b o e)).trans q⟩
      · obtain⟨o',q⟩:=I6.base.there b o e hx;exact⟨o',(El.2 b (Fk b o e)).trans q⟩
      · refine(I6.cu b ob e).gm (fun c v hc q=>(El.2 c ?_).trans q) (fun _ q=>q) fun _ _ q=>q;intro z;have fz:H5 tU.objs.size=none:=I6.free;rcases hc with y|y
        · rw[<-y,z,fz]at e;cases e
        · rw[z,fz]at y;cases y
      · exact⟨(f2 b hb).2.2.2.1,(f2 b hb).2.1,(f2 b hb).2.2.2.2.1,(f2 b hb).2.2.2.2.2⟩
    · refine d7 (T.item (Ae X scope cl (ts++fr.map (·.1)) fp {s2 with heap:=tU} (aB H2 s2.heap.objs.size (.lst []))) rfl rfl rfl zy i [] s5 τ H5 _ I5 (yW Lv) Im go) fun r s6⟨u,hr,h6⟩=>?_;subst hr;refine d7 h6 fun _ s7⟨x,H7,I7,r7,y7,Oh,Vl⟩=>?_;have UT:=I7.pinned (yW Vl) (T.obj _ _ Oh);refine wpAny_mono (hg fp _ _ _ s7 τ H7 x u _ UT r7 (step x H7 y7)) (fun _ s8⟨τ8,H8,I8,q8⟩=>?_) fun _ _ z=>aX z;have again:∀{τ9:St}{H9:Hp}{s9:Shared},Inv (Ae X scope cl (ts++fr.map (·.1)) fp {s2 with heap:=tU} (aB H2 s2.heap.objs.size (.lst []))) ([]++Lb fp s7.heap) τ9 H9 s9->Nn τ9 H9->
          ∃m,m<n/\∃i τ H',Inv (Ae X scope cl (ts++fr.map (·.1)) fp {s2 with heap:=tU} (aB H2 s2.heap.objs.size (.lst []))) [] τ H' s9/\tn i s9.heap/\(∀b∈fp,H' b=none)/\W i m τ H':=fun{τ9 H9 s9} I9 n9=>by
        obtain⟨m',hm,w9⟩:=hN τ9 H9 n9;refine⟨m',hm,i+1,τ9,H9,I9.oA,T.keep _ _ _ Oh fun b hb o e=>(I9.pin (b,o) (bq _ (bq _ (L4 hb e)))).1,fun b hb=>?_,w9⟩;obtain⟨o,e,d⟩:=T.obj _ _ Oh b hb;exact(I9.pin (b,o) (bq _ (bq _ (L4 hb e)))).2.1
      refine wpAny_mono (hc fp _ _ _ s8 τ8 H8 _ I8 q8) (fun ok s9⟨H9,I9,q9⟩=>?_) fun _ _ z=>aX z;cases ok with
      |false=>exact again I9 q9
      |true=>
        refine wpAny_mono (he fp _ _ _ s9 τ8 H9 _ I9 q9) (fun y We⟨v,UP,UQ,rv,ys,hD,hl,qN⟩=>?_) fun _ _ z=>aX z;refine wpAny_mono (F1 (X:=Ae X scope cl (ts++fr.map (·.1)) fp {s2 with heap:=tU} (aB H2 s2.heap.objs.size (.lst []))) _ We τ8 UP (.ref s2.heap.objs.size) [v] (.ref s2.heap.objs.size) [y] (fun _ H=>Nn τ8 H) UQ rfl (.cons rv .nil) ⟨_,ys,v,rfl,rfl,hD,hl,qN⟩) (fun _ s11⟨_,H11,UR,_,Wc⟩=>again UR Wc) fun _ _ z=>aX z
  exact codeAny_compStart_list JH (T.self X.A 0 _ _ _ QI JH)
end
section
variable{X:Cx}{tg:Expr}
theorem DH(K:aa)(h:X.K=K):HM X (Ey K):=h▸Z8
theorem jy(K:aa)(h:X.K=K):HM X (A1 K):=h▸zyc
theorem Zn(K:aa)(h:X.K=K):Li X (G9 K):=h▸Z9
def J1(K:aa):List V->Hp->VK->Prop:=fun xs H Q=>∃p ys,xs=[.ref p]/\(iO K H p ys\/p9 K H p ys)/\Q (.int ys.length) H
theorem OD(K:aa)(h:X.K=K):kF X (.builtin "len") (J1 K):=h▸XI
theorem OZ(K:aa)(h:X.K=K){es:List Expr}{k:Nat}{pos:Pos}{t:EZ}{n:Nat}(hc:X.calm=true)(hq:IS X es t)(hn:(assignEach es X.env).length=n:=by rfl)(Bq:(assignEach es X.env).findIdx? (·.1)=none:=by rfl):PG X (.Tuple es k pos) (B7 K n t):=h▸zxz hc hq hn Bq
theorem Iu(K:aa)(h:X.K=K){l:Expr}{tl:TE}(hl:PE X l tl):PI X tg l (wO K tl):=h▸Z3 hl
theorem Zo(K:aa)(h:X.K=K){l:Expr}{ta:TA}{p pos y9:Pos}{vg:List Expr}{x1}(hg:Gl X "enumerate")(hm:X.mg "enumerate"=none)(ha:PA X [l] ta)(hs:starEach [l] X.env=[(false,eval l X.env)]:=by rfl):
    PI X (.Tuple vg x1 y9) (.Call (.Name "enumerate" p) [l] [] pos) (wN K ta):=h▸zws hg hm ha hs
end
def BD(env:Env):List (Str×Addr)->Prop
 |[]=>True
 |p::r=>env.cells.lookup p.1=some p.2/\BD env r
theorem BD.get{env:Env}:∀{cl:List (Str×Addr)},BD env cl->∀x c,cl.lookup x=some c->env.cells.lookup x=some c
 |[],_,x,c,e=>by cases e
 |p::r,h,x,c,e=>by
  obtain⟨k,a⟩:=p;rw[tJ]at e;by_cases q:x=k
  ·subst q;rw[beq_self_eq_true]at e;cases e
   exact h.1
  ·rw[beq_eq_false_iff_ne.mpr q]at e;exact BD.get h.2 x c e
def BW(ns:List (Str×NameKind))(cl:List (Str×Addr)):Bool:=ns.all fun y=>match y.2 with
 | .cell=>(cl.lookup y.1).isSome
 | .free=>(cl.lookup y.1).isSome
 |_=>true
theorem YQ{ns:List (Str×NameKind)}{cl:List (Str×Addr)}(h:BW ns cl=true)(x:Str)(q:ns.lookup x=some .cell\/ns.lookup x=some .free):∃c,cl.lookup x=some c:=by
 unfold BW at h;rw[iy]at h;rcases q with q|q
 ·have:=h _ (dP q);exact f9.mp this
 ·have:=h _ (dP q);exact f9.mp this
theorem sN{X:Cx}{Dv fX iter:Expr}{Bs:List Expr}{scope:Scope}{pos:Pos}{cl:List (Str×Addr)}(ts:List Str)(fr:List (Str×Nat)){wi:TI}{g:TG}{tc:TT}{te:TE}(zy:X.calm=true)(Ca:closureFor scope X.env=pure cl)(uC:∀y∈scope.names,y.2≠.cell)(kP:scope.kind= .function)(yt:∀y∈scope.names,y.2= .local->scope.names.lookup y.1=some .local)(wJ:BD X.env cl)(Az:BW (relabel scope X.env).names cl=true)(Jt:xX X (relabel scope X.env) fr)(hi:PI X fX iter wi)(hg:∀fp s H,PG (Ae X scope cl (ts++fr.map (·.1)) fp s H) fX g)(hc:∀fp s H,D4 (Ae X scope cl (ts++fr.map (·.1)) fp s H) Bs tc)(he:∀fp s H,PE (Ae X scope cl (ts++fr.map (·.1)) fp s H) Dv te)(hs:∀x,foldedSetIterable iter X.env x=pure x:=by intro _;rfl):
    PE X (.ListComp Dv [⟨fX,iter,Bs,0⟩] scope pos) (C8 ts.length fr wi g tc te):=
  zwt zy Ca uC kP yt wJ.get (fun x q=>YQ Az x q) Jt hi hg hc he hs
def NT(K:aa):List V->Hp->VK->Prop:=fun xs H Q=>∃(p:Addr)(bs:List Bool),xs=[.ref p]/\iO K H p (bs.map V.bl)/\Q (.bl (bs.all id)) H
theorem Zp{bs:List Bool}:∀{us:List Value},bP (bs.map V.bl) us->us=bs.map Value.bool:=by
 induction bs with
 |nil=>intro us r;cases r;rfl
 |cons b r ih=>
  intro us h;cases h with
  |cons h1 h2=>rw[show _=Value.bool b from h1,ih h2];rfl
theorem YR{bs:List Bool}(f:Nat->Bool)(h:∀i,i<bs.length->f i=bs.getD i false):(jC bs.length).all f=bs.all id:=by
 rw[eO,iy,iy];constructor
 ·intro q b hb;obtain⟨i,hi,e⟩:=List.getElem_of_mem hb;have:=q i (vZ.mpr hi);rw[h i hi]at this;rw[<-e]
  simpa [jA,hi]using this
 ·intro q i hi;have hi:=vZ.mp hi;rw[h i hi];have:=q bs[i] (iA hi)
  simpa [jA,hi]using this
section
variable{X:Cx}
theorem Yp{ae:List (Addr×Obj)}{s:Shared}{σ:St}{H:Hp}{p:Addr}{bs:List Bool}{Q:Value->Shared->Prop}(I:Inv X ae σ H s)(hc:X.calm=true)(hq:iO X.K H p (bs.map V.bl))(h:∀s₂:Shared,(∀(h':Heap)(tk:Nat),(∀b o,b∉ [s.heap.objs.size]->s₂.heap.get? b=some o->h'.get? b=some o)->Inv X ae σ H {s₂ with heap:=h',toks:=tk})->
      (s₂.heap.IsListIter s.heap.objs.size p 0/\s₂.heap.IsList p (bs.map Value.bool).toArray)->p≠s.heap.objs.size->Q (.ref s.heap.objs.size) s₂)(E:Value->Shared->Prop):
    wpAny (model X.prog X.w) X.A.in1 (pyIter (.ref p)) Q E s:=by
  obtain⟨dJ,rv,hp,hz⟩:=I.list hq;rw[Zp rv]at hp;have hl:=hp.isList;have oH:p<s.heap.objs.size:=by obtain⟨_,e,_⟩:=id hl;exact Heap.lt_size e
  refine wpAny_pyIter_list hl (h _ (fun h' tk hk=>I.kept (t':=tk) fun b o e=>?_) ⟨⟨_,Heap.get?_push_size _ rfl,rfl,rfl⟩,hl.push _⟩ (aJ oH));exact hk b o (by simp[aJ (Heap.lt_size e)]) (Heap.get?_push_of_some _ e)
theorem X3{A:Around}{bs:List Bool}:TruthOf X.prog X.w A (fun i v=>(bs.map Value.bool).toArray[i]?=some v) (fun i=>bs.getD i false):=by
 intro i v s Q E hP hQ;have e:bs[i]?.map Value.bool=some v:=by simpa using hP
 cases q:bs[i]? with
 |none=>rw[q]at e;cases e
 |some b=>
  rw[q]at e;cases e
  dsimp only at hQ;rw[jA,q]at hQ;exact wpAny_truthy_bool hQ
theorem SG(K:aa)(h:X.K=K)(hc:X.calm=true):kF X (.builtin "all") (NT K):=by
 subst h;intro ae s σ H xs us Q I r h;obtain⟨p,bs,rfl,hq,q⟩:=h;obtain⟨u,rfl,ru⟩:=vals1 r;cases(show u=Value.ref p from ru)
 refine call_all_walk (Yp I hc hq (fun s₂ J st Cg=>⟨_,_,_,_,_,_,_,rfl,Walks.list (A:=X.A.in1) (I.ok.hd hc) _ p Cg _,st,X3,fun h' tk hk=>⟨.bl _,H,J h' tk hk,?_,q⟩⟩) _);show Value.bool _=Value.bool _;congr 1;rw[aP,aj];exact YR _ fun i hi=>rfl
end
def uq (J:It) (g:TG) (tc:TT) (te:TE) (D:Addr) (τ:St) (H:Hp) (Q:VK):Prop :=
 ∃ W:Nat->Nat->St->Hp->Prop,(∃ m,W 0 m τ H)/\∀ i m τ H',W i m τ H' ->
  (J.stop i H'/\Q (.ref D) H')\/(J.go i H'/\∃ N:St->Hp->Prop,(∀ τ' IK,N τ' IK->∃ m',m' < m/\W (i+1) m' τ' IK) /\
   ∀ x H2,J.F0 i H' x H2->g x τ H2 fun τ2 H3=>tc τ2 H3 fun b H4=>if b=true then te τ2 H4 fun y H5=>∃ ys,H5 D=some (.lst ys)/\ys.length<sizeLine/\N τ2 (aB H5 D (.lst (ys++[y]))) else N τ2 H4)
theorem sW{nt:Nat}{fr:List (Str×Nat)}{wi:TI}{g:TG}{tc:TT}{te:TE}{σ:St}{H:Hp}{Q:VK}:
    C8 nt fr wi g tc te σ H Q=wi σ H fun J H1=>∀D,H1 D=none->uq J g tc te D (g7 nt none++fr.map fun p=>(σ[p.2]?).join) (aB H1 D (.lst [])) Q:=rfl
theorem L6{K:aa}{a:Addr}{xs:List V}{g:TG}{tc:TT}{te:TE}{D:Addr}{τ:St}{H:Hp}{Q:VK}(Pv:Nat->St->Hp->Prop)(h0:Pv 0 τ H)(hl:∀i τ H,i<=xs.length->Pv i τ H->iO K H a xs)(hs:∀i x τ H,xs[i]?=some x->Pv i τ H->g x τ H fun τ2 H3=>tc τ2 H3 fun b H4=>if b=true then te τ2 H4 fun y H5=>∃ys,H5 D=some (.lst ys)/\ys.length<sizeLine/\Pv (i+1) τ2 (aB H5 D (.lst (ys++[y])))else Pv (i+1) τ2 H4)(hd:∀τ H,Pv xs.length τ H->Q (.ref D) H):
    uq (HL K a) g tc te D τ H Q:=by
  refine⟨fun i m τ H=>m=xs.length-i/\i<=xs.length/\Pv i τ H,⟨xs.length,by simp,di _,h0⟩,?_⟩;rintro i m τ H ⟨rfl,hi,p⟩;have q:=hl i τ H hi p;by_cases oH:i<xs.length
  · refine .inr ⟨⟨xs,xs[i],q,by simp[oH]⟩,Pv (i+1),fun τ' H' p'=>⟨xs.length-(i+1),by omega,rfl,oH,p'⟩,fun x H2 z=>?_⟩;obtain⟨rfl,hx⟩:=z;exact hs i x τ H2 (hx xs q) p
  · have e:i=xs.length:=by omega
    subst e;exact .inl ⟨⟨xs,q,ao _⟩,hd τ H p⟩
theorem SH{α:Type}{xs:List α}{i:Nat}{x:α}(h:xs[i]?=some x):xs.take (i+1)=xs.take i++[x]:=by rw[DY,h];rfl
abbrev Q4:=Int×Int×Int×Int
def q4(q:Q4):List V:=[.int q.1,.int q.2.1,.int q.2.2.1,.int q.2.2.2]
abbrev jo(H:Hp):List Addr->List Q4->Prop:=Paired fun p q=>H p=some (.tup (q4 q))
theorem jo.len{H:Hp}{ps:List Addr}{qs:List Q4}(h:jo H ps qs):ps.length=qs.length:=Paired.length h
theorem jo.nil{H:Hp}:jo H [] []:=Paired.nil
theorem jo.same{H H':Hp}{ps:List Addr}{qs:List Q4}(h:jo H ps qs)(e:aQ H H'):jo H' ps qs:=Paired.yE h fun _ _ q=>e _ _ q
theorem jo.keep{H H':Hp}{ps:List Addr}{qs:List Q4}(h:jo H ps qs)(e:∀p xs,H p=some (.tup xs)->H' p=some (.tup xs)):jo H' ps qs:=Paired.yE h fun _ _ q=>e _ _ q
theorem jo.snoc{H:Hp}{t:Addr}{q:Q4}(ht:H t=some (.tup (q4 q))):∀{ps:List Addr}{qs:List Q4},jo H ps qs->jo H (ps++[t]) (qs++[q])
 |_,_,Paired.nil=>.cons ht .nil
 |_,_,Paired.cons a b=>.cons a (jo.snoc ht b)
theorem jo.get{H:Hp}:∀{ps:List Addr}{qs:List Q4}{i:Nat}{p:Addr},jo H ps qs->ps[i]?=some p->∃q,qs[i]?=some q/\H p=some (.tup (q4 q))
 |_,_,_,_,Paired.nil,e=>by simp at e
 |_,_,0,_,Paired.cons a _,e=>by simp at e;subst e;exact⟨_,rfl,a⟩
 |_,_,i+1,_,Paired.cons _ b,e=>by obtain⟨q,h1,h2⟩:=jo.get (i:=i) b (by simpa using e);exact⟨q,by simpa using h1,h2⟩
structure Row(H:Hp)(l:Addr)(ps:List Addr)(qs:List Q4):Prop where
 hl:H l=some (.lst (ps.map V.ref))
 r:jo H ps qs
theorem Row.same{H H':Hp}{l:Addr}{ps:List Addr}{qs:List Q4}(R:Row H l ps qs)(e:aQ H H'):Row H' l ps qs:=⟨e _ _ R.hl,R.r.same e⟩
structure ye(H₀ H:Hp)(p:Addr)(ms:List V)(l:Addr)(ps:List Addr)(qs:List Q4):Prop where
 sm:aQ H₀ H
 hp:H p=some (.lst ms)
 hl:H l=some (.lst (ps.map V.ref))
 r:jo H ps qs
theorem ye.same{H₀ H H':Hp}{p:Addr}{ms:List V}{l:Addr}{ps:List Addr}{qs:List Q4}(I:ye H₀ H p ms l ps qs)(e:aQ H H'):ye H₀ H' p ms l ps qs:=⟨I.sm.trans e,e _ _ I.hp,e _ _ I.hl,I.r.same e⟩
theorem ye.snoc{H₀ H:Hp}{p:Addr}{ms:List V}{l t:Addr}{ps:List Addr}{qs:List Q4}{q:Q4}(I:ye H₀ H p ms l ps qs)(h0:H₀ l=none)(uE:p≠l)(ht:H t=some (.tup (q4 q))):
    ye H₀ (aB H l (.lst (ps.map V.ref++[.ref t]))) p ms l (ps++[t]) (qs++[q]):=by
  have kt:∀b xs,H b=some (.tup xs)->aB H l (.lst (ps.map V.ref++[.ref t])) b=some (.tup xs):=fun b xs e=>by rw[bw (bQ e I.hl (by intro z;cases z))];exact e
  refine⟨fun b o e=>?_,by rw[bw uE];exact I.hp,by rw[bh];simp,jo.snoc (kt _ _ ht) (I.r.keep kt)⟩;rw[bw (gq e h0)];exact I.sm _ _ e
mutual
theorem Tg:∀d:PyData,d.canLay0=true->PyData.eqv d d=true
 | .none,_=>rfl
 | .bool b,_=>by simp[PyData.eqv]
 | .int i,_=>by simp[PyData.eqv]
 | .str x,_=>by simp[PyData.eqv]
 | .list xs,h=>by
  have h:PyData.canLayAll0 xs=true:=by simpa only[PyData.canLay0]using h
  simpa only[PyData.eqv]using Ov xs h
 | .tuple xs,h=>by
  have h:PyData.canLayAll0 xs=true:=by simpa only[PyData.canLay0]using h
  simpa only[PyData.eqv]using Ov xs h
 | .dict _,h=>by simp[PyData.canLay0]at h
theorem Ov:∀ds:List PyData,PyData.canLayAll0 ds=true->PyData.eqvAll ds ds=true
 |[],_=>rfl
 |d::r,h=>by simp only[PyData.canLayAll0,eF]at h;simp only[PyData.eqvAll,eF];exact⟨Tg d h.1,Ov r h.2⟩
end
section
variable{X:Cx}
theorem zwu(K:aa)(h:X.K=K)(hu:X.A.units+64<cLine):l0 X (compareOp .Eq) (Ex K):=h▸zyi hu
end
theorem Jc{K:aa}{H:Hp}{x y:V}{d e:PyData}{Q:VK}(hx:mF K H x d)(hy:mF K H y e)(sd:fO d=true)(se:fO e=true)(q:Q (.bl (PyData.eqv d e)) H):Ex K x y H Q:=⟨d,e,hx,hy,sd,se,q⟩
theorem zwv{K:aa}{H:Hp}{x y:V}{d:PyData}{Q:VK}(hx:mF K H x d)(hy:mF K H y d)(sd:fO d=true)(q:Q (.bl true) H):Ex K x y H Q:=by refine Jc hx hy sd sd ?_;rw[Tg d (PySem.SeqAt.canLay_of_shaped sd)];exact q
theorem Us{K:aa}{H:Hp}{p:Addr}{ys:List V}{Q:VK}(h:iO K H p ys)(q:Q (.int ys.length) H):J1 K [.ref p] H Q:=⟨p,ys,rfl,.inl h,q⟩
theorem zyj{K:aa}{H:Hp}{p:Addr}{xs:List V}{lo hi:Option Int}{Q:VK}(h:iO K H p xs)(q:∀l,H l=none->Q (.ref l) (aB H l (.lst (wG xs lo hi)))):G9 K (.ref p) lo hi H Q:=⟨p,xs,rfl,h,q⟩
section
variable{prog:Program}{w:World}{A:Around}{R:Result->Shared->Prop}
theorem Zq{ns:List Int}{dJ:List Value}(r:bP (ns.map V.int) dJ){j:Nat}{v:Value}(h:dJ.toArray[j]?=some v):∃n t,ns[j]?=some n/\v= .int n t:=by
 have hj:j<dJ.length:=by
  have:=(jj.mp h).1
  simpa using this
 have hl:=r.length;rw[aj]at hl;have e:(ns.map V.int)[j]?=some (V.int ns[j]):=by simp[hl▸hj]
 obtain⟨u,hu,t,ru⟩:=r.get e;have:dJ[j]?=some v:=by simpa using h
 rw[this]at hu;cases hu
 exact⟨ns[j],t,by simp[hl▸hj],ru⟩
end
def UX(B:Heap)(e:Addr)(h:Heap)(vs:Array Value):Option Value->Prop
 |none=>vs[1]?=some Value.none
 |some f=>∃T oT ts,vs[1]?=some (.ref T)/\B.get? T=none/\T≠e/\h.get? T=some oT/\oT.data= .fields ts/\ts[3]?=some f
structure zk(B:Heap)(e:Addr)(cls:Value)(dct:Option Addr)(fl:Option Value)(h:Heap):Prop where
 gm:B.StaysIn h
 new:B.get? e=none
 ex:∃oe vs,h.get? e=some oe/\oe.cls=cls/\oe.dict=dct/\oe.data= .fields vs/\1<vs.size/\UX B e h vs fl
structure zj(h h':Heap):Prop where
 sl:∀b o,h.get? b=some o->(∀vs,o.data≠.fields vs)->∃sl,h'.get? b=some {o with slots:=sl}
 th:∀b o,h.get? b=some o->∃o',h'.get? b=some o'
theorem zj.trans{h h1 h2:Heap}(a:zj h h1)(b:zj h1 h2):zj h h2:=by
 refine⟨fun c o e n=>?_,fun c o e=>?_⟩
 ·obtain⟨s1,e1⟩:=a.sl c o e n;obtain⟨s2,e2⟩:=b.sl c _ e1 n;exact⟨s2,e2⟩
 ·obtain⟨o1,e1⟩:=a.th c o e;exact b.th c o1 e1
theorem zj.jq{h h' B:Heap}{l:List Env}(u:zj h h')(f:h.FunFrames B l):h'.FunFrames B l:=f.of_keeps fun b o e n=>by obtain⟨sl,q⟩:=u.sl b o e n;exact⟨_,q,rfl⟩
section
variable{M:Model}{A:Around}{E:Value->Shared->Prop}{s:Shared}{B:Heap}{env:Env}{outer:List Env}{L e:Addr}{cls:Value}{dct:Option Addr}
theorem Th {fl:Option Value} {head:Value} {b1:Bool} {Q:Unit->Shared->Prop} (fr:A.frames=some (env :: outer)) (ff:s.heap.FunFrames B (env :: outer)) (hf:env.frame=some L) (x:zk B e cls dct fl s.heap)
    (h:∀ h',zk B e cls dct (some (rawInt L)) h'->zj s.heap h'->Q () { s with heap:=h' }) :
    wpAny M A (do let a <- frameOf env; let pl <- entryPlaceOf L b1; let b <- EntryCells.newEntry head a .none (rawInt L) .none pl; setField (.ref e) 1 b) Q E s:=by
  obtain ⟨gm,new,oe,vs,DF,JR,JS,A0,G4,_⟩:=x
  have nf:e ∉ (env :: outer).filterMap (·.frame):=fun z=>by
    obtain ⟨_,o,q,n⟩:=ff.mem z
    rw [DF] at q
    cases q
    exact n vs A0
  refine wpAny_bind (wpAny_frameOf_fun fr ff hf fun h1 sl=>wpAny_bind (wpAny_entryPlaceOf fun pl ip=>?_))
  have e1:h1.get? e=some oe:=(sl.2.1 e nf).trans DF
  have EC:B.StaysIn h1:=fun b o q=>(sl.2.1 b fun z=>by rw [(ff.mem z).1] at q; cases q).trans (gm b o q)
  unfold EntryCells.newEntry newFields
  refine wpAny_bind (wpAny_newObj_type ?_ (ip.sizeOk5 _ _ _ _ _))
  generalize hT:({ cls:=.type "traceback", dict:=none,data:=.fields ([head,.ref L,.none,rawInt L,.none]++(if pl.isEmpty then g7 6 Value.none else pl)).toArray }:Obj)=oT
  have e2:(h1.push oT).get? e=some oe:=Heap.get?_push_of_some _ e1
  have ne:h1.objs.size≠e:=lO (Heap.lt_size e1)
  refine wpAny_setField e2 A0 G4 (h _ ⟨fun b o q=>?_,new,_,_,Heap.get?_update_self _ e2 (Obj.isFreed_of_fields (Obj.data_mapFields A0 _)),(Obj.cls_mapFields _ _).trans JR,?_,Obj.data_mapFields A0 _,by simpa using G4,h1.objs.size,oT,_,by simp [G4],EC.fresh,ne,?_,by rw [<- hT],?_⟩ ⟨fun b o q n=>?_,fun b o q=>?_⟩)
  · rw [Heap.get?_update_other _ _ fun z=>by rw [<- z,new] at q; cases q]
    exact Heap.get?_push_of_some _ (EC b o q)
  · rw [<- JS]; cases oe with | mk c d da sl=>cases da <;> rfl
  · rw [Heap.get?_update_other _ _ (bV ne)]
    exact Heap.get?_push_size _ (by rw [<- hT]; rfl)
  · rcases ip with rfl | ⟨_,_,_,_,_,_,_,rfl⟩ <;> simp
  · obtain ⟨s1,q1⟩:=sl.2.2 b o q
    refine ⟨s1,?_⟩
    rw [Heap.get?_update_other _ _ fun z=>by rw [<- z,DF] at q; cases q; exact n vs A0]
    exact Heap.get?_push_of_some _ q1
  · by_cases z:b=e
    · rw [z]; exact ⟨_,Heap.get?_update_self _ e2 (Obj.isFreed_of_fields (Obj.data_mapFields A0 _))⟩
    · obtain ⟨s1,q1⟩:=sl.2.2 b o q
      exact ⟨_,(Heap.get?_update_other _ _ (bV z)).trans (Heap.get?_push_of_some _ q1)⟩
theorem O0{f:Value}{Q:Unit->Shared->Prop}(x:zk B e cls dct (some f) s.heap)(h:∀h',zk B e cls dct (some .none) h'->zj s.heap h'->Q () {s with heap:=h'}):wpAny M A (setFlight (.ref e) none) Q E s:=by
 obtain⟨gm,new,oe,vs,DF,JR,JS,A0,G4,T,oT,ts,t1,t2,t3,t4,t5,t6⟩:=x;unfold setFlight;refine wpAny_bind (wpAny_field DF A0 t1 ?_);rw[if_pos (show(Value.ref T !=Value.none)=true by simp)];have h3:3<ts.size:=(jj.mp t6).1;have Ew:∀(g:Obj->Obj) b,b≠T->(s.heap.update T g).get? b=s.heap.get? b:=fun g b z=>Heap.get?_update_other _ _ (bV z);refine wpAny_setField t4 t5 h3 (h _ ⟨fun b o q=>?_,new,oe,vs,by rw[Ew _ _ (bV t3)];exact DF,JR,JS,A0,G4,T,_,_,t1,t2,t3,Heap.get?_update_self _ t4 (Obj.isFreed_of_fields (Obj.data_mapFields t5 _)),Obj.data_mapFields t5 _,by simp[h3]⟩ ⟨fun b o q n=>⟨o.slots,?_⟩,fun b o q=>?_⟩)
 ·rw[Ew _ _ fun z=>by rw[z,t2]at q;cases q];exact gm b o q
 ·rw[Ew _ _ fun z=>by rw[z,t4]at q;cases q;exact n ts t5];exact q
 ·by_cases z:b=T
  ·rw[z];exact⟨_,Heap.get?_update_self _ t4 (Obj.isFreed_of_fields (Obj.data_mapFields t5 _))⟩
  ·exact⟨o,(Ew _ _ z).trans q⟩
theorem TX{fl:Option Value}{Q:Unit->Shared->Prop}(fr:A.frames=some (env::outer))(ff:s.heap.FunFrames B (env::outer))(hf:env.frame=some L)(x:zk B e cls dct fl s.heap)(GA:fl=none\/fl=some .none)(h:∀h',zk B e cls dct (some (rawInt L)) h'->zj s.heap h'->Q () {s with heap:=h'}):wpAny M A (noteFrame (.ref e) env) Q E s:=by
  have x0:=x;obtain⟨gm,new,oe,vs,DF,JR,JS,A0,G4,tr⟩:=x;unfold noteFrame;simp only[hf];rcases GA with rfl|rfl
  · refine wpAny_bind (wpAny_field DF A0 tr ?_);rw[if_neg (by decide)];exact Th fr ff hf x0 h
  · obtain⟨T,oT,ts,t1,t2,t3,t4,t5,t6⟩:=tr;refine wpAny_bind (wpAny_field DF A0 t1 ?_);rw[if_pos (show(Value.ref T !=Value.none)=true by simp)];refine wpAny_bind (wpAny_field t4 t5 t6 ?_);rw[if_neg (show ¬((Value.none ==rawInt L)=true)by simp[rawInt])];have h3:3<ts.size:=(jj.mp t6).1;have Ew:∀(g:Obj->Obj) b,b≠T->(s.heap.update T g).get? b=s.heap.get? b:=fun g b z=>Heap.get?_update_other _ _ (bV z);have up:∀g,zj s.heap (s.heap.update T (Obj.mapFields g)):=fun g=>⟨fun b o q n=>⟨o.slots,by
      rw[Ew _ _ fun z=>by rw[z,t4]at q;cases q;exact n ts t5];exact q⟩,fun b o q=>by
      by_cases z:b=T
      · rw[z];exact⟨_,Heap.get?_update_self _ t4 (Obj.isFreed_of_fields (Obj.data_mapFields t5 _))⟩
      · exact⟨o,(Ew _ _ z).trans q⟩⟩
    refine wpAny_bind (wpAny_setField t4 t5 h3 ?_);refine Th (fl:=some .none) fr ((up _).jq ff) hf ⟨fun b o q=>?_,new,oe,vs,by rw[Ew _ _ (bV t3)];exact DF,JR,JS,A0,G4,T,_,_,t1,t2,t3,Heap.get?_update_self _ t4 (Obj.isFreed_of_fields (Obj.data_mapFields t5 _)),Obj.data_mapFields t5 _,by simp[h3]⟩ fun h' a b=>h h' a ((up _).trans b);rw[Ew _ _ fun z=>by rw[z,t2]at q;cases q];exact gm b o q
theorem Tj{fl:Option Value}{Q:Unit->Shared->Prop}(fr:A.frames=some (env::outer))(ff:s.heap.FunFrames B (env::outer))(hf:env.frame=some L)(x:zk B e cls dct fl s.heap)(GA:fl=none\/fl=some .none)(h:∀h',zk B e cls dct (some .none) h'->zj s.heap h'->Q () {s with heap:=h'}):wpAny M A (leaving env (.ref e)) Q E s:=by
  unfold leaving;exact wpAny_bind (TX fr ff hf x GA fun h1 x1 u1=>O0 (s:={s with heap:=h1}) x1 fun h2 x2 u2=>h h2 x2 (u1.trans u2))
end
abbrev j3:List Value:=[.type "ValueError",.type "Exception",.type "BaseException",.type "object"]
structure XC(K:aa)(C:Addr):Prop where
 hd:fE K C=true
 ga:ai K (.ref C) "__getattribute__"=some (some (.builtin "BaseException.__getattribute__"))
 gn:ai K (.ref C) "__getattr__"=some none
 sa:ai K (.ref C) "__setattr__"=some (some (.builtin "object.__setattr__"))
 cl:ai K (.ref C) "__class__"=some (some (.builtin "object.__class__"))
 kg:gI K (.builtin "object.__class__") "__get__"=some (some (.builtin "getset_descriptor.__get__"))
 kt:rL K (.builtin "object.__class__")=some true
 be:fB K C (.type "BaseException")=some true
 ob:fB K C (.type "object")=some true
 ex:∃nm q N bs bm jt sn sub ab rQ dd k0 k1 k2 k3 k5,K.lookup C=some (excClassObj nm q C N bs bm jt sn sub ab rQ dd k0 k1 k2 k3 k5 "ValueError.__new__")/\eY K j3 bm=true
theorem XC.plain{K:aa}{C:Addr}(q:aV K C j3 "ValueError.__new__"=true):
    ∃nm q N bs bm jt sn sub ab rQ dd k0 k1 k2 k3 k5,K.lookup C=some (excClassObj nm q C N bs bm jt sn sub ab rQ dd k0 k1 k2 k3 k5 "ValueError.__new__")/\eY K j3 bm=true/\PySem.W.nsOkIn K N=true/\kr K N "__init__"=some none:=by
  unfold aV at q;split at q
  · rename_i dd cd sl ho
    split at q
    · rename_i C' bm k0 k1 k2 k3 n k5 hm hs
      simp only[eF,beq_iff_eq,jU]at q;obtain⟨⟨⟨⟨⟨rfl,rfl⟩,d1⟩,ht⟩,cu⟩,P8⟩:=q;obtain⟨nm,bs,mro,ns,qn,hd,sn,sub,ab,rQ,del⟩:=cd;dsimp only at hm d1 cu P8;subst hm d1;obtain⟨l⟩:=sl;simp only at hs;subst hs;exact⟨nm,qn,ns,bs,bm,hd,sn,sub,ab,rQ,dd,k0,k1,k2,k3,k5,ho,ht,cu,P8⟩
    · cases q
  · cases q
theorem Zr{K:aa}{W:Addr}(q:aV K W j3 "ValueError.__new__"=true):eY K j3 (.ref W::j3)=true:=by obtain⟨nm,q,N,bs,bm,jt,sn,sub,ab,rQ,dd,k0,k1,k2,k3,k5,l,_,h1,h2⟩:=XC.plain q;unfold eY;simp only[l,h1,h2];rfl
section
variable{prog:Program}{w:World}{A:Around}{E:Value->Shared->Prop}{s:Shared}{K:aa}{x C:Addr}{ox:Obj}{od:Option Obj}
open PySem.W in
theorem YS{name:Str}{yj:Bool}{Q:Value->Shared->Prop}(X:K.In s.heap)(c:XC K C)(I:eA s.heap x ox C od)(h:wpAny (model prog w) A.in1 (Builtin.«object.__getattribute__» ⟨[.ref x,.str name s.toks],[]⟩) (fun gM s'=>match gM with| .done (.ret v)=>wpAny (model prog w) A (handedOut v) Q E s' |_=>False) (fun _ _=>False) {s with toks:=s.toks+1}):
    wpAny (model prog w) A (getAttr (.ref x) name yj) Q E s:=by
  obtain⟨hh,g,d,t,os⟩:=s;have L0:=I.type (M:=model prog w);have L1:=looks_findIn (M:=model prog w) X c.ga;have MF:=looks_findIn (M:=model prog w) X c.gn;have sub:Looks (model prog w) hh (isInstance (.ref x) (.type "BaseException")) true:=I.type.andThen (looks_mroIn X c.be);unfold getAttr getAttrBy;refine wpAny_bind (wpAny_mkText (wpAny_holding (wpAny_bind (L0.at (wpAny_bind (L1.at ?_))))));have hx:(Value.builtin "BaseException.__getattribute__" ==Value.builtin "object.__getattribute__")=false:=by decide+kernel
  have tW:¬((onTheHeap (Value.ref C) && Value.builtin "BaseException.__getattribute__" ==Value.builtin "object.__getattribute__")=true):=by rw[hx,HG];exact aG
  show wpAny _ _ (if(onTheHeap (Value.ref C) && Value.builtin "BaseException.__getattribute__" ==Value.builtin "object.__getattribute__")=true then _ else _) _ _ _;rw[if_neg tW];unfold getAttrByItsOwn hookBefore;rw[if_pos (show onTheHeap (Value.ref C)=true from rfl)];refine wpAny_bind (MF.at ?_);have e0:callGetattribute (.ref x) (.str name t) (.builtin "BaseException.__getattribute__") yj=boundAndCalled (.builtin "BaseException.__getattribute__") (.ref x) (.str name t):=by unfold callGetattribute;cases yj <;> rfl
  rw[e0];refine wpAny_bind (wpAny_attempt (wpAny_holding ?_));unfold boundAndCalled;refine wpAny_bind (wpAny_of_eq (gv.ga.bind (.ref x)) ?_);show wpAny _ _ (call (.builtin "BaseException.__getattribute__") [.ref x,.str name t]) _ _ _;have hk:builtinKind "BaseException.__getattribute__"=some .slot:=by decide+kernel
  have hs:splitId "BaseException.__getattribute__"=some ("BaseException","__getattribute__"):=by decide+kernel
  refine wpAny_call (codeAny_call_builtin gv.ga.plain xJ ?_);refine @check_slot (model prog w) _ _ _ "BaseException.__getattribute__" "BaseException" "__getattribute__" (.ref x) [.str name t] [] _ hk hs sub (ya _ _) ?_;refine wpAny_mono h (fun gM s' z=>?_) fun _ _ z=>z.elim;rcases gM with(v|_|_|_) |_ <;> first|exact z|exact z.elim
open PySem.W in
theorem Yq{name:Str}{yj:Bool}{v:Value}{Q:Value->Shared->Prop}(X:K.In s.heap)(c:XC K C)(I:eA s.heap x ox C od)(hf:findObj K C od name=some (.value v))(hv:handedIn v=true)(h:Q v {s with toks:=s.toks+1}):
    wpAny (model prog w) A (getAttr (.ref x) name yj) Q E s:=by
  refine YS X c I ?_;obtain⟨hh,g,d,t,os⟩:=s;have L0:=I.type (M:=model prog w);have L1:=looks_find (M:=model prog w) X I hf;refine wpAny_bind (wpAny_pure (wpAny_bind (wpAny_pure (wpAny_bind (L0.at (wpAny_bind (L1.at (wpAny_pure ?_))))))));show wpAny _ _ (handedOut v) _ _ _;rw[handedOut_of hv];exact wpAny_pure h
open PySem.W in
theorem Yr{Q:Option Value->Shared->Prop}(X:K.In s.heap)(c:XC K C)(I:eA s.heap x ox C od)(h:Q (some (.ref C)) {s with toks:=s.toks+1}):wpAny (model prog w) A (getAttr? (.ref x) "__class__") Q E s:=by
 have hf:findObj K C od "__class__"=some (.bind (.builtin "getset_descriptor.__get__") (.builtin "object.__class__")):=by obtain⟨cd,hc,_⟩:=any_some c.hd;unfold findObj;rw[hc,dQ,c.cl,dQ];dsimp only;rw[c.kg,dQ];dsimp only;rw[c.kt,dQ]
 obtain⟨hh,g,d,t,os⟩:=s;have L0:=I.type (M:=model prog w);have L1:=looks_findIn (M:=model prog w) X c.ga;have MF:=looks_findIn (M:=model prog w) X c.gn;have L3:=looks_find (M:=model prog w) X I hf;have sub:Looks (model prog w) hh (isInstance (.ref x) (.type "BaseException")) true:=I.type.andThen (looks_mroIn X c.be);have hx:(Value.builtin "BaseException.__getattribute__" ==Value.builtin "object.__getattribute__")=false:=by decide+kernel
 have tW:¬((onTheHeap (Value.ref C) && Value.builtin "BaseException.__getattribute__" ==Value.builtin "object.__getattribute__")=true):=by rw[hx,HG];exact aG
 unfold getAttr? getAttrBy? getAttrBy;refine wpAny_bind (wpAny_mkText (wpAny_bind (wpAny_attempt (wpAny_holding (wpAny_bind (L0.at (wpAny_bind (L1.at ?_))))))));show wpAny _ _ (if(onTheHeap (Value.ref C) && Value.builtin "BaseException.__getattribute__" ==Value.builtin "object.__getattribute__")=true then _ else _) _ _ _;rw[if_neg tW];unfold getAttrByItsOwn hookBefore;rw[if_pos (show onTheHeap (Value.ref C)=true from rfl)];refine wpAny_bind (MF.at ?_);refine wpAny_bind (wpAny_attempt (wpAny_holding ?_));show wpAny _ _ (boundAndCalled (.builtin "BaseException.__getattribute__") (.ref x) (.str "__class__" t)) _ _ _;unfold boundAndCalled;refine wpAny_bind (wpAny_of_eq (gv.ga.bind (.ref x)) ?_);show wpAny _ _ (call (.builtin "BaseException.__getattribute__") [.ref x,.str "__class__" t]) _ _ _;have hk:builtinKind "BaseException.__getattribute__"=some .slot:=by decide+kernel
 have hs:splitId "BaseException.__getattribute__"=some ("BaseException","__getattribute__"):=by decide+kernel
 refine wpAny_call (codeAny_call_builtin gv.ga.plain xJ ?_);refine @check_slot (model prog w) _ _ _ "BaseException.__getattribute__" "BaseException" "__getattribute__" (.ref x) [.str "__class__" t] [] _ hk hs sub (ya _ _) ?_;refine wpAny_bind (wpAny_pure (wpAny_bind (wpAny_pure (wpAny_bind (L0.at (wpAny_bind (L3.at ?_)))))));show wpAny _ _ (holding [Value.builtin "object.__class__"] (call (.builtin "getset_descriptor.__get__") [.builtin "object.__class__",.ref x,.ref C]) >>=ret) _ _ _;refine wpAny_bind (wpAny_holding (wpAny_call (class_get (s:={heap:=hh,gens:=g,drawn:=d,toks:=t+1,os:=os}) X I c.ob (wpAny_pure ?_))));show wpAny _ _ (handedOut (.ref C)) _ _ _;exact wpAny_pure (wpAny_pure h)
open PySem.W in
theorem Zs(c:XC K C):KitX K (.ref x) (.ref C) (fun h=>∃ox od,eA h x ox C od) where
 ty:=fun _ _ _⟨_,_,I⟩=>I.type
 it:=fun _ _ X _=>by
  obtain⟨cd,hc,_⟩:=any_some c.hd;unfold clsIn at hc;split at hc
  ·rename_i ho
   intro A' Q' E' s' k q;unfold isType loadHead;exact wpAny_bind (wpAny_loadPart (k _ _ (X _ _ ho)) (wpAny_pure q))
  ·cases hc
 ne:=fun h tp dd dJ n sl X Np=>by
  obtain⟨cd,hc,_⟩:=any_some c.hd;refine Bool.eq_false_iff.mpr fun q=>?_;have e:C=tp:=Value.ref.inj (beq_iff_eq.mp q);subst e;unfold clsIn at hc;split at hc
  ·rename_i ho
   have z:=(X _ _ ho).symm.trans Np;cases z
  ·cases hc
 ca:=fun X⟨_,_,I⟩ k=>Yr X c I k
theorem RZ(self:Value):∀{l:List Value},eY K j3 l=true->refuseLoop self "__setattr__" l=pure ()
 |[],e=>by cases e
 |v::r,e=>by
  unfold eY at e;rcases Bool.or_eq_true_iff.mp e with q|q
  ·rw[beq_iff_eq.mp q];exact PySem.F.store_ValueError.passes self
  ·split at q
   ·split at q
    ·simp only[eF]at q;rw[refuseLoop_ref];exact RZ self q.2
    ·cases q
   ·cases q
open PySem.W Builtin.ObjectAttr in
theorem KR{name:Str}{tk:Tok}{v:Value}{R:Result->Shared->Prop}(X:K.In s.heap)(c:XC K C)(I:eA s.heap x ox C od)(ht:takerIn K C name=some none)(h:∀b,wpAny (model prog w) A.in1 (storeInOwnDict (.ref x) (.ref C) (.str name tk) name v b) (fun gM s'=>match gM with| .done f=>R (.ok f) s' | .again c'=>c'.quiet=true/\codeAny (model prog w) A c' R s') (fun e s'=>R (.error e) s') s):
    codeAny (model prog w) A (.call (.builtin "object.__setattr__") ⟨[.ref x,.str name tk,v],[]⟩) R s:=by
  have SF:=PySem.F.store_object;obtain⟨nm,q,N,bs,bm,jt,sn,sub,ab,rQ,dd,k0,k1,k2,k3,k5,lk,tl⟩:=c.ex;obtain⟨cd,hc,em⟩:∃cd,clsIn K C=some cd/\cd.mro= .ref C::bm:=by unfold clsIn;rw[lk];exact⟨_,rfl,rfl⟩
  have VX:Looks (model prog w) s.heap (isInstance (.ref x) (.type "object")) true:=I.type.andThen (looks_mroIn X c.ob);refine codeAny_call_builtin SF.slot.plain SF.entry (@check_slot (model prog w) _ _ s "object.__setattr__" "object" "__setattr__" (.ref x) [.str name tk,v] [] _ SF.kind SF.split VX (SF.args (.ref x) (.str name tk) v) ?_);obtain⟨IV,ha,hr⟩:=Option.bind_eq_some_iff.mp ht;have L3:Looks (model prog w) s.heap (storeTaker? IV) none:=by
    cases IV with
    |none=>exact .now
    |some a=>
      obtain⟨b,hb,e⟩:=xG.mp hr;refine(looks_takesIn X hb).andThen ?_;cases b with
      |true=>cases e
      |false=>exact .now
  have hm:Looks (model prog w) s.heap (mroOf (.ref C)) cd.mro:=(looks_clsIn X hc).andThen .now;rw[osa_eq,refuse_eq];refine wpAny_bind (wpAny_bind (I.type.here (wpAny_bind (hm.here ?_))));rw[em,refuseLoop_ref,RZ _ tl];refine wpAny_pure (wpAny_bind (I.type.here (wpAny_bind ((looks_findIn X ha).here (wpAny_bind (L3.here (h _)))))))
open PySem.W Builtin.ObjectAttr in
theorem KS{name:Str}{v:Value}{vs:Array Value}{mA:Str->Option Value}{ns:List Str}{Q:Unit->Shared->Prop}(X:K.In s.heap)(c:XC K C)(hx:s.heap.get? x=some ox)(wJ:ox.cls= .ref C)(hf:ox.data= .fields vs)(ht:takerIn K C name=some none)(hd:(ox.dict=none/\∀y,mA y=none)\/∃d,ox.dict=some d/\d≠x/\s.heap.Ns1 d mA)(hw:Within mA ns)(hsz:ns.length<=1000)(h:∀h' d,h'.Ns1 d (fun y=>if y=name then some v else mA y)->h'.get? x=some {ox with dict:=some d}->d≠x->(ox.dict=none->s.heap.objs.size<=d)->(∀d0,ox.dict=some d0->d=d0)->
      (∀b o,b≠x->b≠d->s.heap.get? b=some o->h'.get? b=some o)->∀tk,Q () {s with heap:=h',toks:=tk}):
    wpAny (model prog w) A (setAttr (.ref x) name v) Q E s:=by
  have nc:notCls ox=true:=by unfold notCls;rw[hf]
  obtain⟨cd,hc,lB⟩:=any_some c.hd;have szl:(1001:Nat)<=sizeLine:=by rw[sizeLine_eq];decide
  obtain⟨wL,g0,HX,FY,Ik⟩:=s;rcases hd with⟨Gz,VE⟩ |⟨d,Gz,Cg,Jv⟩
  · have I:eA wL x ox C none:=⟨hx,wJ,nc,by rw[Gz];trivial⟩;refine set_plain X I c.sa (KR (s:=⟨wL,g0,HX,FY+1,Ik⟩) X c I ht fun b=>?_);obtain⟨oc,V8,QB,nX⟩:=ox;dsimp only at wJ Gz hf;subst wJ Gz hf;have Nr:x≠wL.objs.size:=aJ (Heap.lt_size hx);refine wpAny_bind (wpAny_pure (wpAny_bind (wpAny_bind (wpAny_loadPart hx (wpAny_bind (Looks.here (s:=⟨wL,g0,HX,FY+1,Ik⟩) (looks_clsIn X hc) ?_))))));rw[lB];have tW:(wL.push {cls:=.type "dict",data:=.dict #[]}).get? x=some ⟨.ref C,none,.fields vs,nX⟩:=Heap.get?_push_of_some _ hx;refine wpAny_bind (wpAny_alloc' (wpAny_bind (wpAny_update' tW (wpAny_pure ?_))));generalize Nb:(wL.push {cls:=.type "dict",data:=.dict #[]}).update x (fun o=>{o with dict:=some wL.objs.size})=h2;have gx:h2.get? x=some ⟨.ref C,some wL.objs.size,.fields vs,nX⟩:=by rw[<-Nb];exact Heap.get?_update_self _ tW rfl
    have gd:h2.get? wL.objs.size=some {cls:=.type "dict",data:=.dict #[]}:=by rw[<-Nb,Heap.get?_update_ne _ _ _ _ Nr.symm];exact Heap.get?_push_at rfl rfl
    have gk:∀b o,b≠x->wL.get? b=some o->h2.get? b=some o:=fun b o z q=>by rw[<-Nb,Heap.get?_update_ne _ _ _ _ z];exact Heap.get?_push_of_some _ q
    have nd:h2.Ns wL.objs.size (fun _=>none):=⟨_,#[],_,gd,rfl,fun e he=>absurd he (by simp),fun _=>rfl⟩;show wpAny _ _ (storeInDict wL.objs.size (.str name FY) name v) _ _ _;unfold storeInDict newKeyGuard;refine wpAny_bind (wpAny_pure (wpAny_bind (wpAny_nsSet1 (s:=⟨h2,g0,HX,FY+1,Ik⟩) (Heap.Ns1.of_empty nd) fun h' Bp hs=>?_)));obtain⟨oD,Px,Pw,Jw,Jp,Jo⟩:=Bp.count (Within.cons name v Within.nil);refine wpAny_bind (wpAny_lookBehind Jw (by rw[Jp];exact pastItsLine_dict (bf Jo (by rw[bG,aU];omega))) (wpAny_pure ?_));refine h h' wL.objs.size ?_ ((hs.2 x Nr).trans gx) Nr.symm (fun _=>ao _) (fun d0 z=>by cases z) (fun b o z1 z2 q=>(hs.2 b z2).trans (gk b o z1 q)) _;obtain⟨o',es,ep,e1,e2,e3,eu,e4⟩:=Bp;exact⟨o',es,ep,e1,e2,e3,eu,fun y=>by rw[e4 y];by_cases hy:y=name <;> simp[hy,VE]⟩
  · obtain⟨o0,es0,ep0,VF,_⟩:=id Jv;have I:eA wL x ox C (some o0):=⟨hx,wJ,nc,by rw[Gz];exact VF⟩;refine set_plain X I c.sa (KR (s:=⟨wL,g0,HX,FY+1,Ik⟩) X c I ht fun b=>?_);obtain⟨oc,V8,QB,nX⟩:=ox;dsimp only at wJ Gz hf;subst wJ Gz hf;refine wpAny_bind (wpAny_pure (wpAny_bind (wpAny_bind (wpAny_loadPart hx (wpAny_bind (Looks.here (s:=⟨wL,g0,HX,FY+1,Ik⟩) (looks_clsIn X hc) ?_))))));rw[lB];refine wpAny_pure (a:=some d) ?_;show wpAny _ _ (storeInDict d (.str name FY) name v) _ _ _;unfold storeInDict newKeyGuard;refine wpAny_bind (wpAny_pure (wpAny_bind (wpAny_nsSet1 (s:=⟨wL,g0,HX,FY+1,Ik⟩) Jv fun h' Bp hs=>?_)));obtain⟨oD,Px,Pw,Jw,Jp,Jo⟩:=Bp.count (Within.cons name v hw);refine wpAny_bind (wpAny_lookBehind Jw (by rw[Jp];exact pastItsLine_dict (bf Jo (by rw[bG];omega))) (wpAny_pure ?_));exact h h' d Bp ((hs.2 x Cg.symm).trans hx) Cg (fun z=>by cases z) (fun d0 z=>by cases z;rfl) (fun b o z1 z2 q=>(hs.2 b z2).trans q) _
theorem zyk{us:List Value}{Q:Value->Shared->Prop}(X:K.In s.heap)(q:aV K C j3 "ValueError.__new__"=true)(hl:us.length<=sizeLine)(h:∀h' e,Heap.MadeExcOf s.heap h' e (.ref C) us->Q (.ref e) {s with heap:=h'}):wpAny (model prog w) A (call (.ref C) us) Q E s:=by
  obtain⟨nm,qn,N,bs,bm,jt,sn,sub,ab,rQ,dd,k0,k1,k2,k3,k5,lk,tl,nk,ni⟩:=XC.plain q;obtain⟨hp,g,d,t,os⟩:=s;exact wpAny_call_exc_subU dM rfl dM (jc X tl) (X _ _ lk) (.of_isNs (PySem.W.isNs_of_in X nk)) (PySem.W.nsMap_none_of_in X nk ni) (fun h' e m=>h h' e m) hl
theorem zyl{hp:Heap}{g:Array GenState}{d:Drawn}{t:Nat}{os:OsState}{us:List Value}{fI:Addr}{Q:Fin->Shared->Prop}(X:K.In hp)(c:XC K C)(hi:ai K (.ref C) "__init__"=some (some (.ref fI)))(hf:eE K (.ref fI)=some (.type "function"))(hl:us.length<=sizeLine)(h:∀h' e,Heap.MadeExcOf hp h' e (.ref C) us->h'.objs.size=hp.objs.size+2->e=hp.objs.size+1->wpAny (model prog w) A (call (.ref fI) (.ref e::us)) (fun r s'=>r= .none/\Q (.done (.ret (.ref e))) s') E ⟨h',g,d,t,os⟩):
    wpAny (model prog w) A (Builtin.«type.__call__» ⟨.ref C::us,[]⟩) Q E ⟨hp,g,d,t,os⟩:=by
  obtain⟨nm,qn,N,bs,bm,jt,sn,sub,ab,rQ,dd,k0,k1,k2,k3,k5,lk,tl⟩:=c.ex;have cl:=X _ _ lk;have TT:=jc X tl
  repeat (first|with_reducible refine wpAny_madeBy_exc cl ?_|with_reducible refine wpAny_loadPart_at cl ?_|wp_step)
  refine codeAny_call_builtin_code (Code.quiet_builtin _ dM.quiet) (wpAny_check_new_subU dM rfl TT cl ?_);refine codeAny_exc_new_subU dM rfl dM TT cl ?_ hl;show wpAny _ _ _ _ _ _;have kp:∀b o,hp.get? b=some o->((hp.push {cls:=.type "tuple",data:=.seq us.toArray}).push {cls:=.ref C,data:=.fields #[.ref hp.objs.size,.none,.none,.none,.bool false,.none]}).get? b=some o:=fun b o e=>Heap.get?_push_of_some _ (Heap.get?_push_of_some _ e);have ge:((hp.push {cls:=.type "tuple",data:=.seq us.toArray}).push {cls:=.ref C,data:=.fields #[.ref hp.objs.size,.none,.none,.none,.bool false,.none]}).get? (hp.objs.size+1)=some {cls:=.ref C,data:=.fields #[.ref hp.objs.size,.none,.none,.none,.bool false,.none]}:=by heap_get
  have gt:((hp.push {cls:=.type "tuple",data:=.seq us.toArray}).push {cls:=.ref C,data:=.fields #[.ref hp.objs.size,.none,.none,.none,.bool false,.none]}).get? hp.objs.size=some {cls:=.type "tuple",data:=.seq us.toArray}:=Heap.get?_push_of_some _ (Heap.get?_push_at rfl rfl);have sz:((hp.push {cls:=.type "tuple",data:=.seq us.toArray}).push {cls:=.ref C,data:=.fields #[.ref hp.objs.size,.none,.none,.none,.bool false,.none]}).objs.size=hp.objs.size+2:=by simp
  generalize(hp.push {cls:=.type "tuple",data:=.seq us.toArray}).push {cls:=.ref C,data:=.fields #[.ref hp.objs.size,.none,.none,.none,.bool false,.none]}=h1 at kp ge gt sz⊢;have U8:=kp _ _ cl;have Vv:(Value.ref C::bm).contains (.ref C)=true:=by simp
  have X1:K.In h1:=X.keeps kp;have LI:=yc (M:=model prog w) X1 hi;have LB:=Dm (M:=model prog w) X1 (.ref (hp.objs.size+1)) hf;unfold isInstance
  repeat (first|(with_reducible refine wpAny_isSubtype_exc U8 ?_;rw[Vv]) |with_reducible refine wpAny_loadPart_at ge ?_|wp_step)
  show wpAny _ _ (typeLookup (.ref C) _) _ _ _;refine LI.at (wpAny_holding (wpAny_bind (LB.at ?_)));refine wpAny_bind (wpAny_mono (h h1 (hp.objs.size+1) ⟨kp,Heap.get?_none_of_le (gK _),hp.objs.size,ge,Heap.get?_none_of_le (ao _),gt⟩ sz rfl) (fun r s' z=>?_) fun _ _ z=>z);obtain⟨rfl,z⟩:=z
  wp_walk
  exact z
theorem zym{us:List Value}{fI:Addr}{Q:Value->Shared->Prop}(X:K.In s.heap)(c:XC K C)(hi:ai K (.ref C) "__init__"=some (some (.ref fI)))(hf:eE K (.ref fI)=some (.type "function"))(hl:us.length<=sizeLine)(h:∀h' e,Heap.MadeExcOf s.heap h' e (.ref C) us->h'.objs.size=s.heap.objs.size+2->e=s.heap.objs.size+1->wpAny (model prog w) (A.under (.builtin "type.__call__" ⟨.ref C::us,[]⟩)) (call (.ref fI) (.ref e::us)) (fun r s'=>r= .none/\Q (.ref e) s') E {s with heap:=h'}):
    wpAny (model prog w) A (call (.ref C) us) Q E s:=by
  obtain⟨nm,qn,N,bs,bm,jt,sn,sub,ab,rQ,dd,k0,k1,k2,k3,k5,lk,tl⟩:=c.ex;obtain⟨hp,g,d,t,os⟩:=s;have cl:=X _ _ lk;have f1:=tc_lookup;have f2:=tc_bind (.ref C);have tyC:(⟨hp,g,d,t,os⟩:Shared).TypeIs (.ref C) "type":=⟨_,cl,rfl⟩;refine wpAny_call (codeAny_of_tree ?_);show wpAny _ _ (callAny (.ref C) _) _ _ _
  repeat (any_goals (first|assumption|with_reducible refine wpAny_loadPart_at cl ?_|wp_step))
  refine⟨rfl,?_⟩;exact codeAny_call_builtin_at (Code.quiet_builtin _ (by decide+kernel)) entry_typeCall (wpAny_check_type_call_sub cl (zyl X c hi hf hl fun h' e m z1 z2=>h h' e m z1 z2))
theorem zyn{env:Env}{y:Sem Value}{Q:Flow->Shared->Prop}(hh:A.handled=none)(h:wpAny (model prog w) A y (fun v s1=>∃C e oe vs,XC K C/\v= .ref e/\K.In s1.heap/\s1.heap.get? e=some oe/\oe.cls= .ref C/\oe.data= .fields vs/\vs[1]?=some Value.none/\E (.ref e) s1) E s):
    wpAny (model prog w) A (raiseStmt env (some y) none) Q E s:=by
  unfold raiseStmt;refine wpAny_bind (wpAny_mono h (fun v s1 z=>?_) fun _ _ z=>z);obtain⟨C,e,oe,vs,c,rfl,X,e1,e2,e3,e4,gM⟩:=z;obtain⟨nm,qn,N,bs,bm,jt,sn,sub,ab,rQ,dd,k0,k1,k2,k3,k5,lk,tl⟩:=c.ex;obtain⟨hp,g,d,t,os⟩:=s1;have cl:=X _ _ lk;have M5:(Value.ref C::bm).contains (.type "BaseException")=true:=by rw[dh,(jc X tl).hasType (show j3.contains (.type "BaseException")=true from rfl),lg]
  obtain⟨oc,od,QB,nX⟩:=oe;dsimp only at e2 e3;subst e2 e3;have fl:∀{α:Type}{QQ:Value->Shared->Prop},QQ .none ⟨hp,g,d,t,os⟩->wpAny (model prog w) A (field (.ref e) 1) QQ E ⟨hp,g,d,t,os⟩:=fun{_ _} z=>wpAny_field e1 rfl e4 z
  repeat (first|(with_reducible refine wpAny_isSubtype_exc cl ?_;rw[M5]) |with_reducible refine wpAny_loadPart_at e1 ?_|with_reducible refine wpAny_loadPart_at cl ?_|with_reducible refine wpAny_field e1 rfl e4 ?_|wp_step)
  exact wpAny_raiseNew_none hh gM
end
def MN(e C:Addr)(dct:Option Addr)(fr:Bool)(h:Heap):Prop:=∃oe vs,h.get? e=some oe/\oe.cls= .ref C/\oe.dict=dct/\oe.data= .fields vs/\1<vs.size/\(fr=true->vs[1]?=some Value.none)
def b7(e C:Addr)(dct:Option Addr)(fr:Bool):HO:=.ext (MN e C dct fr)
def Lo(d:Addr)(fs:List (Str×V))(h:Heap):Prop:=∃mA,h.Ns1 d mA/\∀f,jn (fs.lookup f) (mA f)
def tG(d:Addr)(fs:List (Str×V)):HO:=.ext (Lo d fs)
section
variable{P:Program}{w:World}{H:Hp}{h:Heap}
theorem K2{e C:Addr}{dct:Option Addr}{fr:Bool}(x:MN e C dct fr h):eT P w H h e (b7 e C dct fr):=by
 refine⟨x,?_,fun h1 h2 y k=>?_⟩
 ·obtain⟨oe,vs,e1,_⟩:=x;exact⟨oe,e1⟩
 ·obtain⟨oe,vs,e1,r⟩:=y;exact⟨oe,vs,k _ e1,r⟩
theorem Ut{d:Addr}{fs:List (Str×V)}(x:Lo d fs h):eT P w H h d (tG d fs):=by
 refine⟨x,?_,fun h1 h2 y k=>?_⟩
 ·obtain⟨mA,⟨o,es,ep,e1,_⟩,_⟩:=x;exact⟨o,e1⟩
 ·obtain⟨mA,⟨o,es,ep,e1,r⟩,q⟩:=y;exact⟨mA,⟨o,es,ep,k _ e1,r⟩,q⟩
theorem eT.there{a:Addr}{o:HO}(x:eT P w H h a o):∃ob,h.get? a=some ob:=by
 cases o with
 |lst xs=>obtain⟨_,_,_,_,e⟩:=x;exact⟨_,e⟩
 |tup xs=>obtain⟨_,_,_,_,e,_⟩:=x;exact⟨_,e⟩
 |dK aI=>obtain⟨_,_,_,_,o,_,_,e,_⟩:=x;exact⟨_,e⟩
 |dT aI=>obtain⟨_,_,_,_,o,_,_,e,_⟩:=x;exact⟨_,e⟩
 |set S n=>obtain⟨o,_,_,_,e,_⟩:=x;exact⟨_,e⟩
 |ins C dx fs=>obtain⟨_,_,_,e,_⟩:=x;exact⟨_,e⟩
 |own y=>exact x
 |xd fs=>obtain⟨_,⟨_,_,_,e,_⟩,_⟩:=x;exact⟨_,e⟩
 |rng lo hi=>obtain⟨_,_,_,e⟩:=x;exact⟨_,e⟩
 |frz ob u=>obtain⟨e,_⟩:=x;exact⟨_,e⟩
 |tbl ps=>exact⟨_,show h.get? a=some _ from x⟩
 |met f y=>exact⟨_,show h.get? a=some _ from x⟩
 |ext φ=>exact x.2.1
theorem iY.exc(x:iY P w H h){e C:Addr}{dct:Option Addr}{fr:Bool}(q:H e=some (b7 e C dct fr)):MN e C dct fr h:=(show eT P w H h e (b7 e C dct fr)from x e _ q).1
theorem iY.xd(x:iY P w H h){d:Addr}{fs:List (Str×V)}(q:H d=some (tG d fs)):Lo d fs h:=(show eT P w H h d (tG d fs)from x d _ q).1
end
structure Mz(P:Program)(w:World)(B:Heap)(l:List Env)(e C:Addr)(dct:Option Addr)(H:Hp)(h:Heap):Prop where
 at_:∃fl,(fl=none\/fl=some Value.none)/\zk B e (.ref C) dct fl h
 ff:h.FunFrames B l
 cu:iY P w H h
 he:H e=some (b7 e C dct false)
 D9:∀a o,H a=some o->a≠e->∃ob,B.get? a=some ob
def eK(P:Program)(w:World):mZ:=fun outer H s E e s'=>∃B ea C dct H',e= .ref ea/\s'.os=s.os/\AllBare s'.gens/\Mz P w B outer ea C dct H' s'.heap/\Un (qW outer) [] H H' s.heap s'.heap/\
 (∀b o,s.heap.get? b=some o->H b=none->b∉qW outer->B.get? b=some o)/\E (.ref ea) dct H'
theorem Tk{P:Program}{w:World}{B:Heap}{e C:Addr}{dct:Option Addr}{fl:Option Value}{H:Hp}{h h':Heap}(x:iY P w H h)(he:H e=some (b7 e C dct false))(D9:∀a o,H a=some o->a≠e->∃ob,B.get? a=some ob)(st:B.StaysIn h)(y:zk B e (.ref C) dct fl h'):iY P w H h':=fun a o q=>by
  by_cases z:a=e
  · subst z;rw[he]at q;cases q
    obtain⟨oe,vs,e1,e2,e3,e4,e5,_⟩:=y.ex;exact K2 ⟨oe,vs,e1,e2,e3,e4,e5,fun z=>by cases z⟩
  · refine(x a o q).gm (fun b u hb g=>?_) (fun _ q=>q) fun _ _ q=>q;have Eg:∃o',H b=some o'/\b≠e:=by
      rcases hb with rfl|hb
      · exact⟨_,q,z⟩
      · refine⟨_,hb,fun y=>?_⟩;rw[y,he]at hb;cases hb
    obtain⟨o',h1,h2⟩:=Eg;obtain⟨ob,h3⟩:=D9 b o' h1 h2;have h4:=st b ob h3;rw[g]at h4;cases h4
    exact y.gm b _ h3
section
variable{X:Cx}{ae:List (Addr×Obj)}{σ:St}{H H':Hp}{s:Shared}{h':Heap}
theorem Inv.out(I:Inv X ae σ H s)(hex:X.ex=[])(u:Un (qW X.stack) [] H H' s.heap h'):Un X.fs [] X.H₀ H' X.s₀.heap h':=by
 have nl:∀b o,X.s₀.heap.get? b=some o->b≠X.env.locals:=fun b o q z=>absurd (av (Heap.lt_size q) (by rw[z];exact I.ok.above)) (dU _);have nx:∀b:Addr,b∉X.ex:=fun b=>by rw[hex];simp
 have ns:∀b o,X.s₀.heap.get? b=some o->b∉X.fs->b∉qW X.stack:=fun b o q n z=>by
  rcases ah.mp (I.pB b z)with y|y
  ·exact nl b o q y
  ·exact n y
 refine⟨fun b o q n hb _=>u.keep b o (I.base.keep b o q n hb (nx b)) (I.base.free b o q n (nx b)) (ns b o q hb) (by simp),fun b o q n hb _=>?_,fun b o q n _=>?_,fun b o q _=>?_,fun b xs q=>u.oz b xs (I.base.oz b xs q),fun b o v q=>u.lT b o v (I.base.lT b o v q),fun b ps q=>?_⟩
 ·obtain⟨sl,e⟩:=I.base.slot b o q n hb (nx b);have fr:=I.base.free b o q n (nx b);by_cases hs:b∈qW X.stack
  ·obtain⟨NZ,e2⟩:=u.slot b _ e fr hs (by simp);exact⟨NZ,e2⟩
  ·exact⟨sl,u.keep b _ e fr hs (by simp)⟩
 ·obtain⟨o1,e⟩:=I.base.there b o q (nx b);exact u.free b o1 e (I.base.free b o q n (nx b)) (by simp)
 ·obtain⟨o1,e⟩:=I.base.there b o q (nx b);exact u.there b o1 e (by simp)
 ·obtain⟨m1,e1⟩:=I.base.ou b ps q;obtain⟨m2,e2⟩:=u.ou b _ e1;exact⟨m1++m2,by rw[e2,BC]⟩
def HW(X:Cx)(e:Addr)(h:Heap):Heap:=Dq h (e::qW X.stack)
theorem Inv.Je(I:Inv X ae σ H s){e C:Addr}{dct:Option Addr}(he:H e=some (b7 e C dct true)):
    zk (HW X e s.heap) e (.ref C) dct none s.heap/\s.heap.FunFrames (HW X e s.heap) X.stack/\(∀b o,s.heap.get? b=some o->b≠e->b∉qW X.stack->(HW X e s.heap).get? b=some o):=by
  obtain⟨oe,vs,e1,e2,e3,e4,e5,e6⟩:=I.cu.exc he;refine⟨⟨fun b o q=>Aq _ q,yb _ (.head _),oe,vs,e1,e2,e3,e4,e5,e6 rfl⟩,PySem.W.funFrames_hide I.stack fun env hm a ha=>.tail _ (pK.mpr ⟨env,hm,ha⟩),fun b o q n1 n2=>zh _ q fun z=>?_⟩;rcases ah.mp z with y|y
  · exact n1 y
  · exact n2 y
theorem Inv.Jf(I:Inv X ae σ H s){e C:Addr}{dct:Option Addr}{fl:Option Value}(he:H e=some (b7 e C dct true))(x:zk (HW X e s.heap) e (.ref C) dct fl h')(u:zj s.heap h'):
    Un (qW X.stack) [] H (aB H e (b7 e C dct false)) s.heap h'/\iY X.prog X.w (aB H e (b7 e C dct false)) h'/\∀a o,aB H e (b7 e C dct false) a=some o->a≠e->∃ob,(HW X e s.heap).get? a=some ob:=by
  obtain⟨x0,ff,big⟩:=I.Je he;have D9:∀a o,aB H e (b7 e C dct false) a=some o->a≠e->∃ob,(HW X e s.heap).get? a=some ob:=fun a o q n=>by rw[bw n]at q;obtain⟨ob,g⟩:=(I.cu a o q).there;exact⟨ob,big a ob g n fun z=>by rw[I.vM a z]at q;cases q⟩
  have ne:∀b,H b=none->b≠e:=fun b n z=>by rw[z,he]at n;cases n
  refine⟨⟨fun b o q n hb _=>x.gm b o (big b o q (ne b n) hb),fun b o q n hb _=>?_,fun b o q n _=>by rw[bw (ne b n)];exact n,fun b o q _=>u.th b o q,fun b xs q=>?_,fun b o v q=>?_,fun b ps q=>⟨#[],?_⟩⟩,?_,D9⟩
  · obtain⟨_,o1,g,nf⟩:=ff.mem (show b∈X.stack.filterMap (·.frame)from hb);rw[q]at g;cases g
    exact u.sl b o q nf
  · rw[bw fun z=>by rw[z,he]at q;cases q];exact q
  · rw[bw fun z=>by rw[z,he]at q;cases q];exact q
  · rw[bw fun z=>by rw[z,he]at q;cases q];simpa using q
  · have h0:iY X.prog X.w (aB H e (b7 e C dct false)) s.heap:=fun a o q=>by
      by_cases z:a=e
      · subst z;rw[bh]at q;cases q
        obtain⟨oe,vs,e1,e2,e3,e4,e5,_⟩:=I.cu.exc he;exact K2 ⟨oe,vs,e1,e2,e3,e4,e5,fun z=>by cases z⟩
      · rw[bw z]at q;refine(I.cu a o q).gm (fun _ _ _ g=>g) (fun b g=>?_) fun b xs g=>?_
        · rw[bw fun z=>by rw[z,he]at g;cases g];exact g
        · rw[bw fun z=>by rw[z,he]at g;cases g];exact g
    exact Tk h0 bh D9 x0.gm x
end
abbrev XH:=Value->Option Addr->St->Hp->Prop
def BB(CX:mZ)(X:Cx)(Ek:XH):Prop:=∀(ae:List (Addr×Obj))(σ:St)(H:Hp)(s:Shared)(e:Value)(s':Shared),Inv X ae σ H s->CX X.stack H s (fun v d H'=>Ek v d σ H') e s'->X.xe e s'
def TY(X:Cx)(Ek:XH):Prop:=∀(ae:List (Addr×Obj))(σ:St)(H:Hp)(s:Shared)(e C:Addr)(dct:Option Addr),Inv X ae σ H s->H e=some (b7 e C dct true)->Ek (.ref e) dct σ (aB H e (b7 e C dct false))->X.xe (.ref e) s
abbrev Ph:XH:=fun _ _ _ _=>False
theorem eo{P:Program}{w:World}{X:Cx}:BB (eK P w) X Ph:=fun _ _ _ _ _ _ _⟨_,_,_,_,_,_,_,_,_,_,_,h⟩=>h.elim
section
variable{X:Cx}{ae:List (Addr×Obj)}{σ:St}{H H':Hp}{s s':Shared}{B h':Heap}{e C:Addr}{dct:Option Addr}{fl:Option Value}
theorem Uu(F:Mz X.prog X.w B X.stack e C dct H' s'.heap)(un:Un (qW X.stack) [] H H' s.heap s'.heap)(cv:∀b o,s.heap.get? b=some o->H b=none->b∉qW X.stack->B.get? b=some o)(x:zk B e (.ref C) dct fl h')(u:zj s'.heap h'):Un (qW X.stack) [] H H' s.heap h'/\iY X.prog X.w H' h':=by
  obtain⟨Py,_,x0⟩:=F.at_;refine⟨⟨fun b o q n hb _=>x.gm b o (cv b o q n hb),fun b o q n hb _=>?_,un.free,fun b o q hx=>?_,un.oz,un.lT,un.ou⟩,Tk F.cu F.he F.D9 x0.gm x⟩
  · obtain⟨sl,e1⟩:=un.slot b o q n hb (by simp);obtain⟨_,o1,g,nf⟩:=F.ff.mem (show b∈X.stack.filterMap (·.frame)from hb);rw[e1]at g;cases g
    obtain⟨NZ,e2⟩:=u.sl b _ e1 nf;exact⟨NZ,e2⟩
  · obtain⟨o1,e1⟩:=un.there b o q hx;exact u.th b o1 e1
theorem TZ(I:Inv X ae σ H s)(F:Mz X.prog X.w B X.stack e C dct H' s'.heap)(Ie:s'.os=s.os)(hb:AllBare s'.gens)(un:Un (qW X.stack) [] H H' s.heap s'.heap)(cv:∀b o,s.heap.get? b=some o->H b=none->b∉qW X.stack->B.get? b=some o)(x:zk B e (.ref C) dct fl h')(u:zj s'.heap h'):Inv X ae σ H' {s' with heap:=h'}:=by
  obtain⟨u2,ok⟩:=Uu F un cv x u;exact I.E2 (s':={s' with heap:=h'}) (ch:=[]) Ie u2 ok hb (fun b z=>absurd z (by simp))
end
section
variable{P:Program}{w:World}{K:aa}{mg:Str->Option Value}{base:Heap}{N:List Str}{bF:Str}{sc:Scope}{f:Addr}{cd:Value}{A:Around}{outer:List Env}{s₀:Shared}{H₀:Hp}{E:XK}
theorem mC:TY (ku (eK P w) P w K mg base N bF sc f cd A outer s₀ H₀ E) (fun v d _ H=>E v d H):=by
 intro ae σ H s e C dct I he hE;obtain⟨x,ff,big⟩:=I.Je he;refine Tj (outer:=outer) (L:=s₀.heap.objs.size) I.ok.frames ff rfl x (.inl rfl) fun h' x' u=>?_;obtain⟨un,ok,D9⟩:=I.Jf he x' u;refine⟨_,e,C,dct,_,rfl,I.os,I.bare,⟨⟨_,.inr rfl,x'⟩,(u.jq ff).2.2,ok,bh,D9⟩,I.out rfl un,fun b o q n hb=>?_,hE⟩;have fr:=I.base.free b o q n (by show b∉([]:List Addr);simp);refine big b o (I.base.keep b o q n hb (by show b∉([]:List Addr);simp)) (fun z=>by rw[z,he]at fr;cases fr) fun z=>?_;rcases ah.mp (I.pB b z)with y|y
 ·exact absurd (av (Heap.lt_size q) (by rw[y];exact I.ok.above)) (dU _)
 ·exact hb y
theorem aR:BB (eK P w) (ku (eK P w) P w K mg base N bF sc f cd A outer s₀ H₀ E) (fun v d _ H=>E v d H):=by
 intro ae σ H s e s' I q;obtain⟨B,ea,C,dct,H',rfl,Ie,hb,F,un,cv,hE⟩:=q;obtain⟨Py,GA,x0⟩:=F.at_;refine Tj (outer:=outer) (L:=s₀.heap.objs.size) I.ok.frames F.ff rfl x0 GA fun h' x' u=>?_;obtain⟨u2,ok⟩:=Uu (X:=ku (eK P w) P w K mg base N bF sc f cd A outer s₀ H₀ E) F un cv x' u;refine⟨B,ea,C,dct,H',rfl,Ie.trans I.os,hb,⟨⟨_,.inr rfl,x'⟩,(u.jq F.ff).2.2,ok,F.he,F.D9⟩,I.out rfl u2,fun b o q n hb=>?_,hE⟩;refine cv b o (I.base.keep b o q n hb (by show b∉([]:List Addr);simp)) (I.base.free b o q n (by show b∉([]:List Addr);simp)) fun z=>?_;rcases ah.mp (I.pB b z)with y|y
 ·exact absurd (av (Heap.lt_size q) (by rw[y];exact I.ok.above)) (dU _)
 ·exact hb y
end
def uS(P:Program)(w:World)(X:Cx)(ae:List (Addr×Obj))(Hk:XH):Cx:=
 {X with pn:=X.pn++ae,xe:=fun e s'=>∃σ H s,Inv X ae σ H s/\eK P w X.stack H s (fun v d H'=>Hk v d σ H') e s'}
section
variable{P:Program}{w:World}{X:Cx}{ae zI:List (Addr×Obj)}{Hk:XH}{σ:St}{H:Hp}{s:Shared}
theorem tw(I:Inv (uS P w X ae Hk) zI σ H s):Inv X ae σ H s:=by have o:=I.ok;exact⟨⟨o.mod,o.kind,o.glob,o.blt,o.above,o.inj,o.has,o.D7,o.hd,o.frames,o.FM,o.E6,o.bs,o.zo,o.vD,o.vj,o.jq,o.Bo⟩,I.os,I.bare,I.base,I.loc,I.cell,I.free,I.ia,fun p hp=>I.pin p (fK _ hp),I.cu,I.len⟩
theorem JB(I:Inv X ae σ H s):Inv (uS P w X ae Hk) [] σ H s:=by have o:=I.ok;exact⟨⟨o.mod,o.kind,o.glob,o.blt,o.above,o.inj,o.has,o.D7,o.hd,o.frames,o.FM,o.E6,o.bs,o.zo,o.vD,o.vj,o.jq,o.Bo⟩,I.os,I.bare,I.base,I.loc,I.cell,I.free,I.ia,fun p hp=>I.pin p (by simpa [uS]using hp),I.cu,I.len⟩
theorem sM:BB (eK P w) (uS P w X ae Hk) Hk:=fun _ σ H s _ _ I q=>⟨σ,H,s,tw I,q⟩
end
def xy(X:Cx)(e:Addr):Cx:={X with A:=X.A.mark (some (.ref e)),calm:=false,xe:=fun _ _=>False}
section
variable{X:Cx}{ae:List (Addr×Obj)}{σ:St}{H:Hp}{s:Shared}{e:Addr}
theorem Fe(I:Inv X ae σ H s):Inv (xy X e) ae σ H s:=by have o:=I.ok;exact⟨⟨o.mod,o.kind,o.glob,o.blt,o.above,o.inj,o.has,o.D7,(fun z=>by cases z),o.frames,o.FM,o.E6,o.bs,o.zo,o.vD,o.vj,o.jq,o.Bo⟩,I.os,I.bare,I.base,I.loc,I.cell,I.free,I.ia,I.pin,I.cu,I.len⟩
theorem z8(o:X.Ok)(I:Inv (xy X e) ae σ H s):Inv X ae σ H s:=
 ⟨o,I.os,I.bare,I.base,I.loc,I.cell,I.free,I.ia,I.pin,I.cu,I.len⟩
end
def vO(sp:Sp)(Ek:XH)(t:TA):TE:=fun σ H Q=>t σ H fun vs H1=>sp vs H1 Q (fun v d H'=>Ek v d σ H')
section
variable{X:Cx}{CX:mZ}{k:Nat}{x:Str}{ps:List Str}{sp:Sp}{Ek:XH}{p pos:Pos}{e:Expr}{es:List Expr}{t:TA}
theorem gE(D:ko X.prog X.w X.K X.mg X.base CX k x ps sp)(hr:e9 k X.A)(hg:Gl X x)(hx:BB CX X Ek)(ha:PA X (e::es) t)(vn:(x ==("__debug__":Str))=false:=by decide)(he:starEach (e::es) X.env=(false,eval e X.env)::starEach es X.env:=by rfl)(uE:(backTo pos (starEach es X.env)).any (·.1)=false:=by rfl):
    PE X (.Call (.Name x p) (e::es) [] pos) (vO sp Ek t):=by
  obtain⟨f,fd,F,hb,hk,hm⟩:=D.ex;intro ae s σ H Q I h;refine wpAny_Call_Name_kw (EO I hg hm ?_ vn);refine eB (h₀:=X.base) I.ok.mod.Bu hk (d7 (ha pos ae s σ H _ I h) fun us s1⟨vs,H1,I1,r,q⟩=>⟨I1.l7,?_⟩) he uE;have hl:(us++[]).length=ps.length:=by rw[aN,<-r.length];exact F.len _ _ _ _ q
  have Dy:=hb s1 us I1.l7 hl;rw[aN]at Dy;refine wpAny_call (codeAny_mono (F.run X.A X.stack s1 H1 ⟨us,[]⟩ us vs Q _ hr I1.B5 Dy r q) fun r s' hq=>?_);cases r with
  |error e=>exact hx ae σ H1 s1 e s' I1 hq
  |ok fl=>
    cases fl with
    |ret u=>exact I1.after hq
    |next=>exact aX hq
    |brk=>exact aX hq
    |cont=>exact aX hq
end
theorem jF.okN{P:Program}{w:World}{K:aa}{mg:Str->Option Value}{base:Heap}{CX:mZ}{x:Str}{st:Stmt}{N ps:List Str}{k:Nat}{sp:Sp}(F:jF K mg x st ps)(S:au N ps (b8 st))(len:∀vs H Q E,sp vs H Q E->vs.length=ps.length)(fR:∀(f:Addr)(bL:Value)(A:Around)(outer:List Env)(s:Shared)(H:Hp)(vs:List V)(Q:VK)(E:XK),e9 k (A.deeper (envOfC x (b8 st) s.heap.objs.size f bL))->sp vs H Q E->
      ∃t,qU (ku CX P w K mg base N x (b8 st) f bL A outer s H E).xR (lY st) t/\t {nx:=fun _ H'=>Q .non H',rt:=Q} (start N vs) H):ko P w K mg base CX (k+1) x ps sp:=by
  obtain⟨f,fd,F,b,m⟩:=F.ex;obtain⟨oc,od,kV,kK,pm,an,bL,ct,nX,rfl,lk,lB⟩:=F.ex;exact⟨f,_,nG lk lB S len fun A outer s H vs Q E hr m8=>by obtain⟨t,h,q⟩:=fR f bL A outer s H vs Q E hr m8;exact⟨t,h.xR,q⟩,b,F.kp,m⟩
theorem jF.jS{P:Program}{w:World}{K:aa}{mg:Str->Option Value}{base:Heap}{x:Str}{st:Stmt}{N ps:List Str}{k:Nat}{sp:Sp}(F:jF K mg x st ps)(S:au N ps (b8 st))(len:∀vs H Q E,sp vs H Q E->vs.length=ps.length)(fR:∀(f:Addr)(bL:Value)(A:Around)(outer:List Env)(s:Shared)(H:Hp)(vs:List V)(Q:VK)(E:XK),e9 k (A.deeper (envOfC x (b8 st) s.heap.objs.size f bL))->sp vs H Q E->
      ∃t,qU (ku (eK P w) P w K mg base N x (b8 st) f bL A outer s H E) (lY st) t/\t {nx:=fun _ H'=>Q .non H',rt:=Q} (start N vs) H):ko P w K mg base (eK P w) (k+1) x ps sp:=by
  obtain⟨f,fd,F,b,m⟩:=F.ex;obtain⟨oc,od,kV,kK,pm,an,bL,ct,nX,rfl,lk,lB⟩:=F.ex;exact⟨f,_,nG lk lB S len fun A outer s H vs Q E hr m8=>fR f bL A outer s H vs Q E hr m8,b,F.kp,m⟩
theorem O4{P:Program}{w:World}{H:Hp}{h:Heap}{a:Addr}(x:iY P w H h)(e:h.get? a=none):H a=none:=by
 cases q:H a with
 |none=>rfl
 |some o=>
  obtain⟨ob,g⟩:=(x a o q).there;rw[e]at g;cases g
theorem Inv.Fg {X:Cx} {ae:List (Addr×Obj)} {σ:St} {H:Hp} {s:Shared} {h':Heap} {a:Addr} {o:HO} {t':Nat} (I:Inv X ae σ H s) (k:∀ b u,s.heap.get? b=some u->h'.get? b=some u) (hn:s.heap.get? a=none) (new:eT X.prog X.w (aB H a o) h' a o) :
    Inv X ae σ (aB H a o) { s with heap:=h',toks:=t' }:=by
  have fr:=O4 I.cu hn
  refine I.un (t':=t') ⟨fun b ob q _ _ _=>k b ob q,fun b ob q _ _ _=>⟨ob.slots,k b ob q⟩,fun b ob q n _=>?_,fun b ob q _=>⟨ob,k b ob q⟩,fun b xs q=>?_,fun b ob v q=>?_,fun b ps q=>⟨#[],?_⟩⟩ fun b ob q=>?_
  · rw [bw fun z=>by rw [z,hn] at q; cases q]; exact n
  · rw [bw (gq q fr)]; exact q
  · rw [bw (gq q fr)]; exact q
  · rw [bw (gq q fr)]; simpa using q
  · by_cases z:b=a
    · subst z
      rw [bh] at q
      cases q
      exact new
    · rw [bw z] at q
      exact (I.cu b ob q).gm (fun c u _ g=>k c u g) (fun c g=>by rw [bw (gq g fr)]; exact g) fun c xs g=>by rw [bw (gq g fr)]; exact g
def EK(C:Addr)(t:TA):TE:=fun σ H Q=>t σ H fun vs H1=>vs.length<=1000/\∀e,H1 e=none->Q (.ref e) (aB H1 e (b7 e C none true))
def vR(K:aa)(Ek:XH)(te:TE):TS:=fun _ σ H=>te σ H fun v H1=>∃e C dct,v= .ref e/\H1 e=some (b7 e C dct true)/\XC K C/\Ek (.ref e) dct σ (aB H1 e (b7 e C dct false))
section
variable{X:Cx}{C:Addr}{x:Str}{p pos:Pos}{e:Expr}{es:List Expr}{t:TA}
theorem oK(q:aV X.K C j3 "ValueError.__new__"=true)(kp:ay X.K (.ref C)=true)(hg:Gl X x)(hm:X.mg x=some (.ref C))(ha:PA X (e::es) t)(vn:(x ==("__debug__":Str))=false:=by decide)(he:starEach (e::es) X.env=(false,eval e X.env)::starEach es X.env:=by rfl)(uE:(backTo pos (starEach es X.env)).any (·.1)=false:=by rfl):
    PE X (.Call (.Name x p) (e::es) [] pos) (EK C t):=by
  intro ae s σ H Q I h;refine wpAny_Call_Name_kw (EO I hg hm ?_ vn);refine eB (h₀:=X.base) I.ok.mod.Bu kp (d7 (ha pos ae s σ H _ I h) fun us s1⟨vs,H1,I1,r,hl,q1⟩=>⟨I1.l7,?_⟩) he uE;refine zyk I1.l7 q (by rw[fD,<-r.length];exact nM hl) fun h' ea m=>?_;obtain⟨tt,g1,g2,g3⟩:=m.there;exact⟨.ref ea,_,I1.Fg (t':=s1.toks) m.keeps m.new (K2 ⟨_,_,g1,rfl,rfl,rfl,av (by decide) (ao 6),fun _=>rfl⟩),rfl,q1 ea (O4 I1.cu m.new)⟩
theorem mw{Ek:XH}{te:TE}(K:aa)(hK:X.K=K)(hc:X.calm=true)(hx:TY X Ek)(he:PE X e te):PS X (.Raise (some e) none pos) (vR K Ek te):=by
 subst hK;intro ae s σ H D I h;rw[arm_exec_Raise];refine wpAny_bind (wpAny_standAt ?_);show wpAny _ _ (raiseStmt X.env (some (do let v <-eval e X.env;standAt pos;pure v)) none) _ _ _;refine zyn (K:=X.K) (I.ok.hd hc) (wpAny_bind (d7 (he ae s σ H _ I h) fun u s1⟨v,H1,I1,r,ea,C,dct,hv,hh,c,q⟩=>wpAny_bind (wpAny_standAt (wpAny_pure ?_))));subst hv;cases(show u=Value.ref ea from r)
 obtain⟨oe,vs,e1,e2,e3,e4,e5,e6⟩:=I1.cu.exc hh;exact⟨C,ea,oe,vs,c,rfl,I1.l7,e1,e2,e4,e6 rfl,hx ae σ H1 s1 ea C dct I1 hh q⟩
end
section
variable{prog:Program}{w:World}{A:Around}{E:Value->Shared->Prop}{s:Shared}{K:aa}{e C C':Addr}
theorem zyo{oe:Obj}{b:Bool}{Q:Bool->Shared->Prop}(X:K.In s.heap)(c:XC K C')(he:s.heap.get? e=some oe)(hc:oe.cls= .ref C)(hs:fV K (.ref C) (.ref C')=some b)(h:Q b s):wpAny (model prog w) A (excMatches (.ref e) (.ref C')) Q E s:=by
 obtain⟨nm,qn,N,bs,bm,jt,sn,sub,ab,rQ,dd,k0,k1,k2,k3,k5,lk,tl⟩:=c.ex;obtain⟨hp,g,d,t,os⟩:=s;have cl:=X _ _ lk;have M5:(Value.ref C'::bm).contains (.type "BaseException")=true:=by rw[dh,(jc X tl).hasType (show j3.contains (.type "BaseException")=true from rfl),lg]
 have LS:=PySem.W.looks_subIn (M:=model prog w) X hs;have f:=tc_notTuple;unfold excMatches
 repeat (first|(with_reducible refine wpAny_loadPart_at he ?_;rw[hc]) |with_reducible refine wpAny_loadPart_at cl ?_|(with_reducible refine wpAny_isSubtype_exc cl ?_;rw[M5]) |(with_reducible refine LS.at ?_) |wp_step)
 cases b with
 |true=>wp_walk;exact h
 |false=>wp_walk;exact h
end
def Ce(K:aa)(C':Addr)(th:Addr->TS)(D:Ends):XH:=fun v d σ H=>∃e C,v= .ref e/\H e=some (b7 e C d false)/\fV K (.ref C) (.ref C')=some true/\th e D σ H
def Hy(K:aa)(C':Addr)(tb:XH->TS)(th:TS):TS:=fun D σ H=>tb (Ce K C' (fun _=>th) D) D σ H
def vS(K:aa)(C':Addr)(i:Nat)(tb:XH->TS)(th:TS):TS:=fun D σ H=>
 tb (Ce K C' (fun e D σ H=>th {nx:=fun σ H=>D.nx (σ.set i none) H,rt:=D.rt,bk:=fun σ H=>D.bk (σ.set i none) H,ct:=fun σ H=>D.ct (σ.set i none) H} (σ.set i (some (.ref e))) H) D) D σ H
section
variable{P:Program}{w:World}{X:Cx}{C':Addr}{x:Str}{np Jx pos:Pos}{body C6:List Stmt}{b0:Stmt}{tb:XH->TS}{th:TS}
theorem SP.tw{ae:List (Addr×Obj)}{Hk:XH}{D:Ends}{f:Flow}{s':Shared}(h:SP (uS P w X ae Hk) [] D f s'):SP X ae D f s':=by
 cases f with
 |next=>obtain⟨σ,H,I,q⟩:=h;exact⟨σ,H,L2.tw I,q⟩
 |brk=>obtain⟨σ,H,I,q⟩:=h;exact⟨σ,H,L2.tw I,q⟩
 |cont=>obtain⟨σ,H,I,q⟩:=h;exact⟨σ,H,L2.tw I,q⟩
 |ret u=>obtain⟨v,σ,H,I,r,q⟩:=h;exact⟨v,σ,H,L2.tw I,r,q⟩
theorem Mm {M:Model} {A:Around} {E:Value->Shared->Prop} {ae:List (Addr×Obj)} {σ:St} {H:Hp} {s:Shared} {i:Nat} {n:Str} {pos:Pos} {Q:Unit->Shared->Prop} (I:Inv X ae σ H s) (hN:X.N.Nodup) (hi:X.N[i]? = some n) (hl:X.env.scope.names.lookup n=some .local)
    (h:∀ s',Inv X ae (σ.set i none) H s'->Q () s'):wpAny M A (do bindName X.env n .none; unbindBehindTheSuite X.env n pos) Q E s:=by
  have Gy:(X.env.scope.kind == .class || (X.env.scope.kind == .module && X.env.locals != X.env.globals))=false:=by rw [I.ok.kind]; rfl
  refine wpAny_bind (wpAny_bindName (L7 (v:=V.non) I hN hi (.inl hl) rfl (fun s1 I1=>?_) (.inr hl)))
  unfold unbindBehindTheSuite
  refine wpAny_onRaise ?_
  obtain ⟨m,hn,P7⟩:=id I1.loc
  have P4:i < σ.length:=by rw [I.len]; exact (aE.mp hi).1
  obtain ⟨u,ru,lk⟩:=P7 i n .non hi (by rw [g6 P4]) (.inl hl)
  have mv:m n=some u:=by
    rcases lk with ⟨_,z⟩ | ⟨z,_⟩
    · exact z
    · rcases z with z | z
      · rw [show X.env.kindOf n=some .local from hl] at z; cases z
      · rw [show X.env.kindOf n=some .local from hl] at z; cases z
  refine wpAny_unbindName_local (show X.env.kindOf n=some .local from hl) hn mv Gy fun h' u' Bp hs=>h _ ?_
  have BX:=I1.BX
  refine ⟨I1.ok,I1.os,I1.bare,⟨fun b o e n hb hx=>?_,fun b o e n hb hx=>?_,I1.base.free,fun b o e hx=>?_,I1.base.oz,I1.base.lT,I1.base.ou⟩,⟨_,Bp,fun j y v' e1 e2 e3=>?_⟩,fun y c e=>?_,I1.free,I1.ia,fun p hp=>?_,fun b ob e=>?_,?_⟩
  · exact (hs.2 b (aJ (av (Heap.lt_size e) I1.ok.above))).trans (I1.base.keep b o e n hb hx)
  · obtain ⟨sl,e1⟩:=I1.base.slot b o e n hb hx
    exact ⟨sl,(hs.2 b (aJ (av (Heap.lt_size e) I1.ok.above))).trans e1⟩
  · obtain ⟨o',e1⟩:=I1.base.there b o e hx
    exact ⟨o',(hs.2 b (aJ (av (Heap.lt_size e) I1.ok.above))).trans e1⟩
  · by_cases hj:j=i
    · subst hj
      rw [g6 P4] at e2
      cases e2
    · have Vb:(σ.set i (some V.non))[j]? = some (some v'):=by
        rw [m5 (bV hj)] at e2 ⊢; exact e2
      obtain ⟨u1,r1,q⟩:=P7 j y v' e1 Vb e3
      refine ⟨u1,r1,?_⟩
      rcases q with ⟨k,e⟩ | ⟨k,c,e,z⟩
      · refine .inl ⟨k,?_⟩
        have:y≠n:=fun e=>hj (OI hN e1 (e ▸ hi))
        simp [this,e]
      · exact .inr ⟨k,c,e,z.sameBut hs (BX y c e)⟩
  · obtain ⟨w',z⟩:=I1.cell y c e
    exact ⟨w',z.sameBut hs (BX y c e)⟩
  · obtain ⟨e,n,ne,nf,d⟩:=I1.pin p hp
    exact ⟨(hs.2 p.1 ne).trans e,n,ne,nf,d⟩
  · refine (I1.cu b ob e).gm (fun c w' hc q=>(hs.2 c ?_).trans q) (fun _ q=>q) fun _ _ q=>q
    rintro rfl
    have fr:H X.env.locals=none:=I1.free
    rcases hc with z | hc
    · rw [<- z,fr] at e; cases e
    · rw [fr] at hc; cases hc
  · have:=I1.len
    rw [List.length_set] at this ⊢
    exact this
theorem Mc{i:Nat}{n:Str}(hP:X.prog=P)(hw:X.w=w)(K:aa)(hK:X.K=K)(Bq:X.stack=X.env::X.outer)(hf:X.env.frame=some X.env.locals)(c:XC K C')(hg:Gl X x)(hm:X.mg x=some (.ref C'))(hN:X.N.Nodup)(hi:X.N[i]?=some n)(hl:X.env.scope.names.lookup n=some .local)(hb:∀ae Hk,qU (uS P w X ae Hk) body (tb Hk))(hs:∀e,qU (xy X e) (b0::C6) th)(vn:(x ==("__debug__":Str))=false:=by decide):
    PS X (.Try body [.ExceptHandler (some (.Name x np)) (some n) (b0::C6) Jx] [] [] pos) (vS K C' i tb th):=by
  subst hP hw hK;intro ae s σ H D I h;refine wpAny_Try_except (wpAny_mono (hb ae _ [] s σ H D (JB I) h) (fun f s1 z=>?_) fun ev s1 z=>?_)
  · have z:=SP.tw z;cases f with
    |next=>obtain⟨σ1,H1,I1,q⟩:=z;exact wpAny_execs_nil ⟨σ1,H1,I1,q⟩
    |brk=>exact z
    |cont=>exact z
    |ret u=>exact z
  · obtain⟨σ1,H1,s2,J,B,ea,C,dct,H',rfl,Ie,PN,F,un,cv,e2,C2,hv,M7,No,q⟩:=z;cases hv
    have eC:C2=C/\True:=by
      obtain⟨oe,vs,g1,g2,_⟩:=F.cu.exc M7;obtain⟨oe',vs',PD,PF,_⟩:=F.cu.exc F.he;rw[g1]at PD;cases PD
      rw[g2]at PF;exact⟨Value.ref.inj PF,trivial⟩
    obtain⟨rfl,_⟩:=eC;obtain⟨Py,GA,x0⟩:=F.at_;refine TX (outer:=X.outer) (by rw[<-Bq];exact J.ok.frames) (by rw[<-Bq];exact F.ff) hf x0 GA fun h1 x1 u1=>?_;refine O0 (s:={s1 with heap:=h1}) x1 fun h2 x2 u2=>?_;have J2:=TZ J F Ie PN un cv x2 (u1.trans u2);refine wpAny_handleBy_cons (codeAny_handlers_test (EO (X:=xy X ea) (Fe J2) hg hm ?_ vn)) (by intro z;cases z);obtain⟨oe,vs,g1,g2,_⟩:=x2.ex;refine zyo J2.l7 c g1 g2 No (codeAny_handlers_suite_as ?_);refine O0 (s:={s1 with heap:=h2}) x2 fun h3 x3 u3=>?_;have J3:=TZ J F Ie PN un cv x3 ((u1.trans u2).trans u3);refine L7 (X:=xy X ea) (v:=V.ref ea) (Fe J3) hN hi (.inl hl) rfl (fun s4 J4=>?_) (.inr hl);refine wpAny_mono (hs ea ae s4 _ H' _ J4 q) (fun f s5 z=>?_) fun _ _ z=>aX z;have o:X.Ok:=J3.ok;show wpAny _ _ _ (fun _ s6=>SP X ae D f s6) _ _;cases f with
    |next=>obtain⟨σ5,H5,J5,q5⟩:=z;exact Mm (z8 o J5) hN hi hl fun s6 J6=>⟨_,_,J6,q5⟩
    |brk=>obtain⟨σ5,H5,J5,q5⟩:=z;exact Mm (z8 o J5) hN hi hl fun s6 J6=>⟨_,_,J6,q5⟩
    |cont=>obtain⟨σ5,H5,J5,q5⟩:=z;exact Mm (z8 o J5) hN hi hl fun s6 J6=>⟨_,_,J6,q5⟩
    |ret u=>obtain⟨v,σ5,H5,J5,r5,q5⟩:=z;exact Mm (z8 o J5) hN hi hl fun s6 J6=>⟨v,_,_,J6,r5,q5⟩
end
def pN(H:Hp)(dct:Option Addr):Prop:=dct=none\/∃d fs,dct=some d/\H d=some (tG d fs)
theorem Uv{d:Addr}{fs:List (Str×V)}{h:Heap}(x:Lo d fs h):∃o,h.get? d=some o:=by obtain⟨mA,⟨o,es,ep,e1,_⟩,_⟩:=x;exact⟨o,e1⟩
theorem Zt{P:Program}{w:World}{H:Hp}{h:Heap}{e C:Addr}{dct:Option Addr}{fr:Bool}(x:iY P w H h)(he:H e=some (b7 e C dct fr))(hf:pN H dct):∃ox od,eA h e ox C od:=by
 obtain⟨oe,vs,e1,e2,e3,e4,_⟩:=x.exc he;have no:lQ oe=true:=by unfold lQ;rw[e4]
 rcases hf with rfl|⟨d,fs,rfl,hd⟩
 ·exact⟨oe,none,e1,e2,no,by rw[e3];trivial⟩
 ·obtain⟨o,g⟩:=Uv (x.xd hd);exact⟨oe,some o,e1,e2,no,by rw[e3];exact g⟩
def Pc(K:aa):List V->Hp->VK->Prop:=fun xs H Q=>∃e C dct fr c cv b,xs=[.ref e,c]/\H e=some (b7 e C dct fr)/\pN H dct/\XC K C/\IZ c=some cv/\bW K (.ref C) cv=some b/\Q (.bl b) H
def FW(K:aa)(ta:TE)(f:Str):TE:=fun σ H Q=>ta σ H fun x H1=>∃e C d fr fs v,x= .ref e/\H1 e=some (b7 e C (some d) fr)/\H1 d=some (tG d fs)/\XC K C/\ai K (.ref C) f=some none/\fs.lookup f=some v/\Q v H1
def zL(K:aa)(ta tv:TE)(f:Str):TS:=fun D σ H=>tv σ H fun y H1=>ta σ H1 fun x H2=>∃e C dct fr,x= .ref e/\H2 e=some (b7 e C dct fr)/\XC K C/\bX K C f=some none/\
 ((dct=none/\∀d,H2 d=none->d≠e->D.nx σ (aB (aB H2 e (b7 e C (some d) fr)) d (tG d [(f,y)])))\/∃d fs,dct=some d/\H2 d=some (tG d fs)/\fs.length<=100/\D.nx σ (aB H2 d (tG d (ak f y fs))))
theorem Zu{h:Heap}{d:Addr}{mA:Str->Option Value}(n:h.Ns1 d mA){o:Obj}(ho:h.get? d=some o)(name:Str):jb name o=some (mA name):=by
 obtain⟨od,h1,h2⟩:=Sl n;rw[ho]at h1;cases h1
 exact h2 name
section
variable{X:Cx}
theorem xC(K:aa)(hK:X.K=K):kF X (.builtin "isinstance") (Pc K):=by
 subst hK;intro ae s σ H xs us Q I r h;obtain⟨e,C,dct,fr,c,cv,b,rfl,he,hf,xc,hc,k,q⟩:=h;obtain⟨u,v,rfl,rx,rc⟩:=bP.two r;cases(show u=Value.ref e from rx)
 have ec:v=cv:=by
  cases c with
  |ty n=>cases(show v=Value.type n from rc);exact aK hc
  |ref a=>cases(show v=Value.ref a from rc);exact aK hc
  |_=>cases hc
 subst ec;exact PySem.W.kia_one (Zs xc) I.l7 (Zt I.cu he hf) k (fun z=>nomatch z) fun tk=>⟨.bl b,H,I.tok _,rfl,q⟩
theorem Mn{o:Expr}{f:Str}{pos:Pos}{ta:TE}(K:aa)(hK:X.K=K)(ho:PE X o ta)(hb:attributeBase o f X.env (eval o X.env)=eval o X.env):PE X (.Attribute o f pos) (FW K ta f):=by
 subst hK;intro ae s σ H Q I h;refine TQ hb (d7 (ho ae s σ H _ I h) fun u s1⟨v,H1,I1,r,e,C,d,fr,fs,y,ev,he,hd,xc,hn,hl,q⟩=>?_);subst ev;cases(show u=Value.ref e from r)
 obtain⟨oe,vs,e1,e2,e3,e4,_⟩:=I1.cu.exc he;obtain⟨mA,ns,jT⟩:=I1.cu.xd hd;obtain⟨od,g⟩:=Uv (I1.cu.xd hd);have no:lQ oe=true:=by unfold lQ;rw[e4]
 have rl:=jT f;rw[hl]at rl;obtain⟨u,hu,ru⟩:=jn.some_of rl;obtain⟨cd,hc,lB⟩:=BO xc.hd;have hf:Dp X.K C (some od) f=some (.value u):=by unfold Dp PySem.W.ownOf;rw[hc,dQ,hn,dQ];dsimp only;rw[dQ,dQ];dsimp only;rw[if_pos lB,Zu ns g f,hu,dQ]
 exact Yq I1.l7 xc ⟨e1,e2,no,by rw[e3];exact g⟩ hf (Sm ru) ⟨y,H1,I1.tok _,ru,q⟩
end
section
variable{K:aa}{C C':Addr}
theorem Zv(q:aV K C j3 "ValueError.__new__"=true):∃nm q N bs bm jt sn sub ab rQ dd k0 k1 k2 k3 k5,K.lookup C=some (excClassObj nm q C N bs bm jt sn sub ab rQ dd k0 k1 k2 k3 k5 "ValueError.__new__")/\eY K j3 bm=true:=by obtain⟨nm,q,N,bs,bm,jt,sn,sub,ab,rQ,dd,k0,k1,k2,k3,k5,l,t,_⟩:=XC.plain q;exact⟨nm,q,N,bs,bm,jt,sn,sub,ab,rQ,dd,k0,k1,k2,k3,k5,l,t⟩
theorem Zw:bW K (.ref C) (.ref C)=some true:=by unfold bW;rw[if_pos (by simp)]
theorem zyp{cd:ClassData}{b:Bool}(n:(Value.ref C ==Value.ref C')=false)(hc:u9 K C'=some cd)(ht:eE K (.ref C')=some (.type "type"))(hs:fV K (.ref C) (.ref C')=some b):bW K (.ref C) (.ref C')=some b:=by unfold bW;rw[if_neg (by rw[n];decide)];unfold D5;dsimp only;rw[if_pos (by rw[hc,ht];rfl)];exact hs
theorem zyq{b:Bool}(hs:fV K (.ref C) (.type "ValueError")=some b):bW K (.ref C) (.type "ValueError")=some b:=by unfold bW;rw[if_neg (by simp)];unfold D5;dsimp only;rw[if_pos (by decide+kernel)];exact hs
end
abbrev rP{α:Type}(Bm:α->List V)(H:Hp):List Addr->List α->Prop:=Paired fun p q=>H p=some (.tup (Bm q))
section
variable{α:Type}{Bm:α->List V}{H H':Hp}{ps:List Addr}{qs:List α}
theorem SI(h:rP Bm H ps qs):ps.length=qs.length:=Paired.length h
theorem Ys(h:rP Bm H ps qs)(e:∀p xs,H p=some (.tup xs)->H' p=some (.tup xs)):rP Bm H' ps qs:=Paired.yE h fun _ _ q=>e _ _ q
theorem Sf{t:Addr}{q:α}(ht:H t=some (.tup (Bm q))):∀{ps:List Addr}{qs:List α},rP Bm H ps qs->rP Bm H (ps++[t]) (qs++[q])
 |_,_,Paired.nil=>.cons ht .nil
 |_,_,Paired.cons a b=>.cons a (Sf ht b)
theorem SJ:∀{ps:List Addr}{qs:List α}{i:Nat}{p:Addr},rP Bm H ps qs->ps[i]?=some p->∃q,qs[i]?=some q/\H p=some (.tup (Bm q))
 |_,_,_,_,Paired.nil,e=>by simp at e
 |_,_,0,_,Paired.cons a _,e=>by simp at e;subst e;exact⟨_,rfl,a⟩
 |_,_,i+1,_,Paired.cons _ b,e=>by obtain⟨q,h1,h2⟩:=SJ (i:=i) b (by simpa using e);exact⟨q,by simpa using h1,h2⟩
structure Pn(Bm:α->List V)(H:Hp)(l:Addr)(ps:List Addr)(qs:List α):Prop where
 hl:H l=some (.lst (ps.map V.ref))
 r:rP Bm H ps qs
end
abbrev F2:=Int×Int
def f2(q:F2):List V:=[.int q.1,.int q.2]
end L2
namespace Sw
open L2
def DE(q:F2):F2:=(rN q.1 q.2,rD q.1 q.2)
theorem G2{q:F2}(h:q.2≠0):Fr (DE q).1 (DE q).2:=vF h
theorem AZ{q:F2}(h:q.2≠0):(DE q).1*q.2=(DE q).2*q.1:=Sy h
end Sw
namespace L2
open PySem PySem.Spec PyProof.Rows
theorem Uw{H:Hp}{l:Addr}{xs:List V}{y:V}{Q:VK}(h:H l=some (.lst xs))(hz:xs.length<1000)(q:Q .non (aB H l (.lst (xs++[y])))):TV (.ref l) [y] H Q:=⟨l,xs,y,rfl,rfl,h,iG hz,q⟩
theorem Mx{K:aa}{H:Hp}{l:Addr}{xs:List V}(h:H l=some (.lst xs)):LY K "list" (.ref l) H:=.inl ⟨rfl,_,.of h⟩
structure rM(k:Nat)(A:Around):Prop where
 dp:A.depth+3*k+5<recursionLimit
 un:A.units+16*k+200<cLine
theorem e9.mark{j k:Nat}{A:Around}{h:Option Value}(r:e9 k A)(hj:j<=k:=by decide):rM j (A.mark h):=⟨by have:=r.dp;show A.depth+3*j+5 < _;omega,by have:=r.un;show A.units+16*j+200 < _;omega⟩
theorem rM.deeper{k:Nat}{A:Around}(r:rM (k+1) A)(env:Env):rM k (A.deeper env):=⟨by have:=r.dp;show A.depth+1+3*k+5 < _;omega,by have:=r.un;show A.units+3+16*k+200 < _;omega⟩
structure IJ(P:Program)(w:World)(K:aa)(mg:Str->Option Value)(base:Heap)(CX:mZ)(k:Nat)(f:Addr)(fd:FuncData)(ps:List Str)(sp:Sp):Prop where
 len:∀vs H Q E,sp vs H Q E->vs.length=ps.length
 run:∀(A:Around)(outer:List Env)(s:Shared)(H:Hp)(args:Args)(us:List Value)(vs:List V)(Q:VK)(E:XK),rM k A->tQ P w K mg base A outer s H->BindsTo s fd args (ps.zip us)->bP vs us->sp vs H Q E->
  codeAny (model P w) A (.call (.ref f) args) (CR CX outer P w H s Q E) s
structure F9(P:Program)(w:World)(K:aa)(mg:Str->Option Value)(base:Heap)(CX:mZ)(k:Nat)(x:Str)(ps:List Str)(sp:Sp):Prop where
 ex:∃(f:Addr)(fd:FuncData),IJ P w K mg base CX k f fd ps sp/\Binds K fd ps []/\ay K (.ref f)=true/\mg x=some (.ref f)
def B0(CX:mZ)(P:Program)(w:World)(K:aa)(mg:Str->Option Value)(base:Heap)(N:List Str)(bF:Str)(scope:Scope)(f:Addr)(cd:Value)(A:Around)(outer:List Env)(s:Shared)(H:Hp)(E:XK):Cx:=
 {ku CX P w K mg base N bF scope f cd A outer s H E with calm:=false}
theorem Yt{CX:mZ}{P:Program}{w:World}{K:aa}{mg:Str->Option Value}{base:Heap}{N ps:List Str}{bF:Str}{scope:Scope}{f:Addr}{cd:Value}{A:Around}{outer:List Env}{s s1:Shared}{H:Hp}{E:XK}{us:List Value}{vs:List V}(S:au N ps scope)(e0:tQ P w K mg base A outer s H)(hl:vs.length=ps.length)(r:bP vs us)(x:InCallC s s.heap.objs.size (bindL (envOfC bF scope s.heap.objs.size f cd).kindOf (ps.zip us) fun _=>none) (cellsFrom (s.heap.objs.size+1) scope.names []) (bindC (envOfC bF scope s.heap.objs.size f cd).kindOf (ps.zip us) fun _=>none) s1):
    Inv (B0 CX P w K mg base N bF scope f cd A outer s H E) [] (start N vs) H s1:=by
  have e1:tQ P w K mg base {A with handled:=none} outer s H:=⟨e0.frames,e0.mod,e0.bs,e0.zo,e0.jq,e0.Bo,e0.cu,e0.bare⟩;have I:=Su (CX:=CX) (E:=E) (A:={A with handled:=none}) S rfl e1 hl r x;have o:=I.ok;exact⟨⟨o.mod,o.kind,o.glob,o.blt,o.above,o.inj,o.has,o.D7,(fun z=>by cases z),Around.frames_deeper e0.frames,o.FM,o.E6,o.bs,o.zo,o.vD,o.vj,o.jq,o.Bo⟩,I.os,I.bare,I.base,I.loc,I.cell,I.free,I.ia,I.pin,I.cu,I.len⟩
theorem jF.V9{P:Program}{w:World}{K:aa}{mg:Str->Option Value}{base:Heap}{CX:mZ}{x:Str}{st:Stmt}{N ps:List Str}{k:Nat}{sp:Sp}(F:jF K mg x st ps)(S:au N ps (b8 st))(len:∀vs H Q E,sp vs H Q E->vs.length=ps.length)(fR:∀(f:Addr)(bL:Value)(A:Around)(outer:List Env)(s:Shared)(H:Hp)(vs:List V)(Q:VK)(E:XK),rM k (A.deeper (envOfC x (b8 st) s.heap.objs.size f bL))->sp vs H Q E->
      ∃t,qU (B0 CX P w K mg base N x (b8 st) f bL A outer s H E).xR (lY st) t/\t {nx:=fun _ H'=>Q .non H',rt:=Q} (start N vs) H):F9 P w K mg base CX (k+1) x ps sp:=by
  obtain⟨f,fd,F,b,m⟩:=F.ex;obtain⟨oc,od,kV,kK,pm,an,bL,ct,nX,rfl,lk,lB⟩:=F.ex;refine⟨f,_,⟨len,fun A outer s H args us vs Q E hr e0 hb r m8=>?_⟩,b,F.kp,m⟩;have hl:=len _ _ _ _ m8;have KX:K.In s.heap:=e0.mod.Bu.keeps fun b o e=>(e0.bs b o e).1;have Fi:s.heap.NoLimit:=e0.mod.nolimit.keeps fun b o e=>(e0.bs b o e).1;have kP:∀y∈ps.zip us,(b8 st).names.lookup y.1=some .local\/((b8 st).names.lookup y.1=some .cell/\((cellsFrom (s.heap.objs.size+1) (b8 st).names []).lookup y.1).isSome=true):=fun⟨n,v⟩ hy=>by
    rcases S.par n (lN hy).1 with q|q
    · exact .inl q
    · exact .inr ⟨q,kq _ _ _ (.inl q)⟩
  refine codeAny_call_function (by have:=hr.dp;omega) (KX _ _ lk) rfl S.co S.gen rfl (Ao KX lB) (hb _ _ _ _ ?_);refine wpAny_newFunctionEnv_cells S.kind kP fun env he s1 ic=>?_;subst he;refine⟨Fi.keeps ic.toInCall.keep,codeAny_func ?_⟩;obtain⟨t,ht,hq⟩:=fR f bL A outer s H vs Q E (hr.deeper _) m8;have I:=Yt (CX:=CX) (E:=E) (A:=A) S e0 hl r ic;refine wpAny_mono (ht.xR [] s1 (start N vs) H _ I hq) (fun fl s' hs=>?_) fun e s' hs=>hs;have gM:∀{σ':St}{H':Hp}{v:V}{u:Value},Inv (B0 CX P w K mg base N x (b8 st) f bL A outer s H E) [] σ' H' s'->RelV v u->Q v H'->CE outer P w H s Q u s':=
    fun{σ' H' v u} J rv q=>⟨v,H',J.os,J.bare,J.base,J.cu,rv,q⟩;cases fl with
  |ret u=>
    obtain⟨v,σ',H',J,rv,q⟩:=hs;exact gM J rv q
  |next=>
    obtain⟨σ',H',J,q⟩:=hs;exact gM (v:=V.non) (u:=Value.none) J rfl q
  |brk=>
    obtain⟨_,_,_,q⟩:=hs;exact aX q
  |cont=>
    obtain⟨_,_,_,q⟩:=hs;exact aX q
def vN(sp:Sp)(t:TA):TE:=fun σ H Q=>t σ H fun vs H1=>sp vs H1 Q E0
section
variable{P:Program}{w:World}{X:Cx}{k:Nat}{x:Str}{ps:List Str}{sp:Sp}{p pos:Pos}{e:Expr}{es:List Expr}{t:TA}
theorem Zx(D:F9 X.prog X.w X.K X.mg X.base (eK P w) k x ps sp)(hr:rM k X.A)(hg:Gl X x)(ha:PA X (e::es) t)(vn:(x ==("__debug__":Str))=false:=by decide)(he:starEach (e::es) X.env=(false,eval e X.env)::starEach es X.env:=by rfl)(uE:(backTo pos (starEach es X.env)).any (·.1)=false:=by rfl):
    PE X (.Call (.Name x p) (e::es) [] pos) (vN sp t):=by
  obtain⟨f,fd,F,hb,hk,hm⟩:=D.ex;intro ae s σ H Q I h;refine wpAny_Call_Name_kw (EO I hg hm ?_ vn);refine eB (h₀:=X.base) I.ok.mod.Bu hk (d7 (ha pos ae s σ H _ I h) fun us s1⟨vs,H1,I1,r,q⟩=>⟨I1.l7,?_⟩) he uE;have hl:(us++[]).length=ps.length:=by rw[aN,<-r.length];exact F.len _ _ _ _ q
  have Dy:=hb s1 us I1.l7 hl;rw[aN]at Dy;refine wpAny_call (codeAny_mono (F.run X.A X.stack s1 H1 ⟨us,[]⟩ us vs Q _ hr I1.B5 Dy r q) fun r s' hq=>?_);cases r with
  |error e=>obtain⟨_,_,_,_,_,_,_,_,_,_,_,z⟩:=hq;exact z.elim
  |ok fl=>
    cases fl with
    |ret u=>exact I1.after hq
    |next=>exact aX hq
    |brk=>exact aX hq
    |cont=>exact aX hq
end
theorem xD{K:aa}{H:Hp}{e C:Addr}{dct:Option Addr}{fr:Bool}{c:V}{cv:Value}{b:Bool}{Q:VK}(he:H e=some (b7 e C dct fr))(hf:pN H dct)(xc:XC K C)(hc:IZ c=some cv)(k:bW K (.ref C) cv=some b)(q:Q (.bl b) H):Pc K [.ref e,c] H Q:=
 ⟨e,C,dct,fr,c,cv,b,rfl,he,hf,xc,hc,k,q⟩
theorem zww{K:aa}{C W N:Addr}{nm qn:Str}{bs:List Value}{jt:Bool}{sn:List Str}{sub:List Value}{ab:Bool}{rQ:Option Bool}{dd:Option Addr}{k0 k1 k2 k3 k5:Option Value}(q:aV K W j3 "ValueError.__new__"=true)(lk:K.lookup C=some (excClassObj nm qn C N bs (.ref W::j3) jt sn sub ab rQ dd k0 k1 k2 k3 k5 "ValueError.__new__")):
    ∃nm q N bs bm jt sn sub ab rQ dd k0 k1 k2 k3 k5,K.lookup C=some (excClassObj nm q C N bs bm jt sn sub ab rQ dd k0 k1 k2 k3 k5 "ValueError.__new__")/\eY K j3 bm=true:=
  ⟨nm,qn,N,bs,_,jt,sn,sub,ab,rQ,dd,k0,k1,k2,k3,k5,lk,Zr q⟩
theorem YT{fs:List (Str×V)}{mA:Str->Option Value}(jT:∀f,jn (fs.lookup f) (mA f)):Within mA (fs.map (·.1)):=by
 intro x hx;have r:=jT x;cases q:fs.lookup x with
 |none=>
  rw[q]at r;exact absurd (jn.none_of r) hx
 |some v=>exact aZ.mpr ⟨(x,v),dP q,rfl⟩
theorem zyr{P:Program}{w:World}{H:Hp}{h:Heap}{e C d:Addr}{dct:Option Addr}{fr:Bool}{fs:List (Str×V)}(x:iY P w H h)(he:H e=some (b7 e C dct fr))(hd:H d=some (tG d fs)):d≠e:=fun z=>by
 obtain⟨oe,vs,e1,e2,e3,e4,_⟩:=x.exc he;obtain⟨mA,⟨o,es,ep,g1,g2,_⟩,_⟩:=x.xd hd;rw[z,e1]at g1;cases g1
 rw[e4]at g2;cases g2
section
variable{X:Cx}{o value:Expr}{f:Str}{pos nY:Pos}{ta tv:TE}
theorem K3 (K:aa) (hK:X.K=K) (ha:PE X o ta) (hv:PE X value tv) (hs:swapsWith value (some (.Attribute o f nY)) pos.line X.env=pure false):PS X (.Assign [.Attribute o f nY] value pos) (zL K ta tv f):=by
 subst hK
 intro ae s σ H D I h
 refine plainObj_wpAny_Assign_Attribute (d7 (hv ae s σ H _ I h) fun u s1 ⟨y,H1,I1,ry,q⟩=>d7 (ha ae s1 σ H1 _ I1 q) fun ov s2 ⟨x,H2,I2,rx,e,C,dct,fr,ex,he,xc,ht,U5⟩=>?_) hs
 subst ex
 obtain rfl:ov=Value.ref e:=rx
 obtain ⟨oe,vs,e1,e2,e3,e4,e5,e6⟩:=I2.cu.exc he
 rcases U5 with ⟨rfl,k⟩ | ⟨d,fs,rfl,hd,hl,k⟩
 ·refine KS (mA:=fun _=>none) (ns:=[]) I2.l7 xc e1 e2 e4 ht (.inl ⟨e3,fun _=>rfl⟩) (fun x hx=>absurd rfl hx) (by decide) fun h' d n1 n2 n3 n4 _ n6 tk=>?_
  have sz:=n4 e3
  have fd:H2 d=none:=I2.cu.fresh sz
  refine ⟨σ,_,?_,k d fd n3⟩
  have xS:∀ b ob,s2.heap.get? b=some ob->b≠d:=fun b ob q=>aJ (av (Heap.lt_size q) sz)
  have nn:∀ {b ob},H2 b=some ob->(∀ φ,ob≠.ext φ)->aB (aB H2 e (b7 e C (some d) fr)) d (tG d [(f,y)]) b=some ob:=fun {b ob} q z=>by
   rw [bw (gq q fd),bw fun w=>by rw [w,he] at q; cases q; exact z _ rfl]; exact q
  refine I2.un (t':=tk) ⟨fun b ob q n _ _=>n6 b ob (fun z=>by rw [z,he] at n; cases n) (xS b ob q) q,fun b ob q n _ _=>⟨ob.slots,n6 b ob (fun z=>by rw [z,he] at n; cases n) (xS b ob q) q⟩,fun b ob q n _=>?_,fun b ob q _=>?_,fun b xs q=>nn q (by intro φ z; cases z),fun b ob v q=>nn q (by intro φ z; cases z),fun b ps q=>⟨#[],by rw [nn q (by intro φ z; cases z)]; simp⟩⟩ fun b ob q=>?_
  ·rw [bw (xS b ob q),bw fun z=>by rw [z,he] at n; cases n]; exact n
  ·by_cases z:b=e
   ·rw [z]; exact ⟨_,n2⟩
   ·exact ⟨ob,n6 b ob z (xS b ob q) q⟩
  ·by_cases z:b=d
   ·subst z
    rw [bh] at q
    cases q
    refine Ut ⟨_,n1,fun g=>?_⟩
    by_cases w:g=f
    ·subst w
     simp only [tJ,beq_self_eq_true,if_true]
     exact ry
    ·simp only [tJ,beq_eq_false_iff_ne.mpr w,if_neg w]
     trivial
   ·rw [bw z] at q
    by_cases w:b=e
    ·subst w
     rw [bh] at q
     cases q
     exact K2 ⟨_,vs,n2,e2,rfl,e4,e5,e6⟩
    ·rw [bw w] at q
     refine (I2.cu b ob q).gm (fun c v hc g=>?_) (fun c g=>nn g (by intro φ z; cases z)) fun c xs g=>nn g (by intro φ z; cases z)
     refine n6 c v (fun z2=>?_) (xS c v g) g
     rcases hc with y | y
     ·exact w (y ▸ z2)
     ·rw [z2,he] at y; cases y
 ·obtain ⟨mA,V5,jT⟩:=I2.cu.xd hd
  have de:=zyr I2.cu he hd
  refine KS (mA:=mA) (ns:=fs.map (·.1)) I2.l7 xc e1 e2 e4 ht (.inr ⟨d,e3,de,V5⟩) (YT jT) (by rw [aj]; omega) fun h' d' n1 n2 n3 _ n5 n6 tk=>?_
  obtain rfl:=n5 d e3
  have V0:h'.get? e=some oe:=by rw [n2]; obtain ⟨a1,a2,a3,a4⟩:=oe; dsimp only at e3; subst e3; rfl
  refine ⟨σ,_,?_,k⟩
  have nn:∀ {b ob},H2 b=some ob->(∀ φ,ob≠.ext φ)->aB H2 d' (tG d' (ak f y fs)) b=some ob:=fun {b ob} q z=>by
   rw [bw fun w=>by rw [w,hd] at q; cases q; exact z _ rfl]; exact q
  have kp:∀ b ob,b≠d'->s2.heap.get? b=some ob->h'.get? b=some ob:=fun b ob z q=>by
   by_cases w:b=e
   ·subst w
    rw [e1] at q
    cases q
    exact V0
   ·exact n6 b ob w z q
  have nd:∀ b,H2 b=none->b≠d':=fun b n z=>by rw [z,hd] at n; cases n
  refine I2.un (t':=tk) ⟨fun b ob q n _ _=>kp b ob (nd b n) q,fun b ob q n _ _=>⟨ob.slots,kp b ob (nd b n) q⟩,fun b ob q n _=>by rw [bw (nd b n)]; exact n,fun b ob q _=>?_,fun b xs q=>nn q (by intro φ z; cases z),fun b ob v q=>nn q (by intro φ z; cases z),fun b ps q=>⟨#[],by rw [nn q (by intro φ z; cases z)]; simp⟩⟩ fun b ob q=>?_
  ·by_cases z:b=d'
   ·subst z
    obtain ⟨o',es,ep,g1,_⟩:=n1
    exact ⟨_,g1⟩
   ·exact ⟨ob,kp b ob z q⟩
  ·by_cases z:b=d'
   ·subst z
    rw [bh] at q
    cases q
    refine Ut ⟨_,n1,fun g=>?_⟩
    rw [mY]
    by_cases w:g=f
    ·rw [if_pos w,if_pos w]; exact ry
    ·rw [if_neg w,if_neg w]; exact jT g
   ·rw [bw z] at q
    refine (I2.cu b ob q).gm (fun c v hc g=>kp c v (fun z2=>?_) g) (fun c g=>nn g (by intro φ z; cases z)) fun c xs g=>nn g (by intro φ z; cases z)
    rcases hc with y | y
    ·exact z (y ▸ z2)
    ·rw [z2,hd] at y; cases y
end
structure HP(P:Program)(w:World)(K:aa)(mg:Str->Option Value)(base:Heap)(CX:mZ)(k:Nat)(C:Addr)(ps:List Str)(sp:Sp):Prop where
 ex:∃(f:Addr)(fd:FuncData),nh P w K mg base CX k f fd ps sp/\Binds K fd ps []/\ai K (.ref C) "__init__"=some (some (.ref f))/\eE K (.ref f)=some (.type "function")
def z6(C:Addr)(sp:Sp)(t:TA):TE:=fun σ H Q=>t σ H fun vs H1=>vs.length<=1000/\∀e,H1 e=none->sp (.ref e::vs) (aB H1 e (b7 e C none true)) (fun v H2=>v= .non/\Q (.ref e) H2) E0
theorem Mp{X:Cx}{C:Addr}{x:Str}{p pos:Pos}{e:Expr}{es:List Expr}{t:TA}{CX:mZ}{k:Nat}{ps:List Str}{sp:Sp}(M:HP X.prog X.w X.K X.mg X.base CX k C ps sp)(xc:XC X.K C)(kp:ay X.K (.ref C)=true)(hr:e9 (k+1) X.A)(hx:BB CX X Ph)(hg:Gl X x)(hm:X.mg x=some (.ref C))(ha:PA X (e::es) t)(vn:(x ==("__debug__":Str))=false:=by decide)(he:starEach (e::es) X.env=(false,eval e X.env)::starEach es X.env:=by rfl)(uE:(backTo pos (starEach es X.env)).any (·.1)=false:=by rfl):
    PE X (.Call (.Name x p) (e::es) [] pos) (z6 C sp t):=by
  obtain⟨fI,fd,F,hb,hi,hf⟩:=M.ex;intro ae s σ H Q I h;refine wpAny_Call_Name_kw (EO I hg hm ?_ vn);refine eB (h₀:=X.base) I.ok.mod.Bu kp (d7 (ha pos ae s σ H _ I h) fun us s1⟨vs,H1,I1,r,hl,q1⟩=>⟨I1.l7,?_⟩) he uE;refine zym I1.l7 xc hi hf (by rw[fD,<-r.length];exact nM hl) fun h' ea m z1 z2=>?_;obtain⟨tt,g1,g2,g3⟩:=m.there;have I2:=I1.Fg (t':=s1.toks) m.keeps m.new (K2 (P:=X.prog) (w:=X.w) (H:=aB H1 ea (b7 ea C none true)) (e:=ea) (C:=C) (dct:=none) (fr:=true) ⟨_,_,g1,rfl,rfl,rfl,av (by decide) (ao 6),fun _=>rfl⟩);have q:=q1 ea (O4 I1.cu m.new);have r2:bP (V.ref ea::vs) (Value.ref ea::us):=.cons rfl r;have xN:(Value.ref ea::us++[]).length=ps.length:=by rw[aN,<-r2.length];exact F.len _ _ _ _ q
  have Dy:=hb {s1 with heap:=h'} (Value.ref ea::us) I2.l7 xN;rw[aN]at Dy;refine wpAny_call (codeAny_mono (F.run _ X.stack _ _ ⟨Value.ref ea::us,[]⟩ (Value.ref ea::us) _ _ _ (hr.make C us []) (I2.B5.make C us []) Dy r2 q) fun r s' hq=>?_);cases r with
  |error ev=>exact hx ae σ _ _ ev s' I2 hq
  |ok fl=>
    cases fl with
    |ret u=>
      obtain⟨v,H',I3,rv,ev,q3⟩:=I2.after hq;subst ev;exact⟨rv,⟨V.ref ea,H',I3,rfl,q3⟩⟩
    |next=>exact aX hq
    |brk=>exact aX hq
    |cont=>exact aX hq
structure yf(K:aa)(C:Addr)(bF:Str)(st:Stmt)(ps:List Str):Prop where
 ex:∃(f:Addr)(fd:FuncData),EU K "__init__" bF st f fd/\Binds K fd ps []/\ai K (.ref C) "__init__"=some (some (.ref f))/\eE K (.ref f)=some (.type "function")
theorem yf.ok{P:Program}{w:World}{K:aa}{mg:Str->Option Value}{base:Heap}{CX:mZ}{C:Addr}{bF:Str}{st:Stmt}{N ps:List Str}{k:Nat}{sp:Sp}(F:yf K C bF st ps)(S:au N ps (b8 st))(len:∀vs H Q E,sp vs H Q E->vs.length=ps.length)(fR:∀(f:Addr)(bL:Value)(A:Around)(outer:List Env)(s:Shared)(H:Hp)(vs:List V)(Q:VK)(E:XK),e9 k (A.deeper (envOfC bF (b8 st) s.heap.objs.size f bL))->sp vs H Q E->
      ∃t,qU (ku CX P w K mg base N bF (b8 st) f bL A outer s H E).xR (lY st) t/\t {nx:=fun _ H'=>Q .non H',rt:=Q} (start N vs) H):HP P w K mg base CX (k+1) C ps sp:=by
  obtain⟨f,fd,F,b,m,ty⟩:=F.ex;obtain⟨oc,od,kV,kK,pm,an,bL,ct,nX,rfl,lk,lB⟩:=F.ex;exact⟨f,_,nG lk lB S len fun A outer s H vs Q E hr m8=>by obtain⟨t,h,q⟩:=fR f bL A outer s H vs Q E hr m8;exact⟨t,h.xR,q⟩,b,m,ty⟩
structure pM(H H':Hp)(e C d:Addr)(fs:List (Str×V)):Prop where
 out:∀b,b≠e->b≠d->H' b=H b
 fr:H d=none
 ne:d≠e
 he:H' e=some (b7 e C (some d) true)
 hd:H' d=some (tG d fs)
def EB(C:Addr)(f:Str):Sp:=fun vs H Q _=>∃e y,vs=[.ref e,y]/\H e=some (b7 e C none true)/\∀d H',pM H H' e C d [(f,y)]->Q .non H'
inductive Hj(C:Addr)(f g:Str)(vs:List V)(H:Hp)(Q:VK)(E:XK):Prop|mk (e y z:_) (h1:vs=[.ref e,y,z]) (h2:H e=some (b7 e C none true)) (h3:∀d H',pM H H' e C d [(f,y),(g,z)]->Q .non H'):Hj C f g vs H Q E
theorem Ux{H:Hp}{e C d:Addr}{fs:List (Str×V)}(hd:H d=none)(ne:d≠e):pM H (aB (aB H e (b7 e C (some d) true)) d (tG d fs)) e C d fs:=
 ⟨fun b h1 h2=>by rw[bw h2,bw h1],hd,ne,by rw[bw (bV ne)];exact bh,bh⟩
theorem zys{H H':Hp}{e C d:Addr}{fs gs:List (Str×V)}(x:pM H H' e C d fs):pM H (aB H' d (tG d gs)) e C d gs:=
 ⟨fun b h1 h2=>by rw[bw h2];exact x.out b h1 h2,x.fr,x.ne,by rw[bw (bV x.ne)];exact x.he,bh⟩
theorem Ci{K:aa}{H:Hp}{e C:Addr}{f:Str}{y:V}{Q:VK}(he:H e=some (b7 e C none true))(xc:XC K C)(tk:bX K C f=some none)(k:∀d H',pM H H' e C d [(f,y)]->Q .non H'):
    zL K (qM 0) (qM 1) f {nx:=fun _ H'=>Q .non H',rt:=Q} [some (.ref e),some y] H:=
  ⟨_,rfl,_,rfl,e,C,none,true,rfl,he,xc,tk,.inl ⟨rfl,fun d hd ne=>k _ _ (Ux hd ne)⟩⟩
theorem JA{K:aa}{H:Hp}{e C:Addr}{f g:Str}{y z:V}{Q:VK}(he:H e=some (b7 e C none true))(xc:XC K C)(tf:bX K C f=some none)(tg:bX K C g=some none)(fg:f≠g)(k:∀d H',pM H H' e C d [(f,y),(g,z)]->Q .non H'):
    c9 (zL K (qM 0) (qM 1) f) (zL K (qM 0) (qM 2) g) {nx:=fun _ H'=>Q .non H',rt:=Q} [some (.ref e),some y,some z] H:=by
  refine⟨_,rfl,_,rfl,e,C,none,true,rfl,he,xc,tf,.inl ⟨rfl,fun d hd ne=>?_⟩⟩;have x:=Ux (C:=C) (fs:=[(f,y)]) hd ne;refine⟨_,rfl,_,rfl,e,C,some d,true,rfl,x.he,xc,tg,.inr ⟨d,_,rfl,x.hd,by simp,?_⟩⟩;have e2:ak g z [(f,y)]=[(f,y),(g,z)]:=by unfold ak;rw[if_neg fg];rfl
  rw[e2];exact k _ _ (zys x)
structure Gn(H H':Hp)(e C d:Addr)(fs:List (Str×V)):Prop where
 sm:aQ H H'
 he:H' e=some (b7 e C (some d) true)
 hd:H' d=some (tG d fs)
 fe:H e=none
 fd:H d=none
 ne:d≠e
theorem KQ{H H':Hp}{e C d:Addr}{fs:List (Str×V)}(he:H e=none)(x:pM (aB H e (b7 e C none true)) H' e C d fs):Gn H H' e C d fs:=by
 have hd:H d=none:=by have:=x.fr;rwa [bw x.ne]at this
 exact⟨fun b o q=>by rw[x.out b (gq q he) (gq q hd),bw (gq q he)];exact q,x.he,x.hd,he,hd,x.ne⟩
theorem NH{H:Hp}{C:Addr}{f:Str}{y:V}{Q:Addr->Hp->Prop}(k:∀e d H',Gn H H' e C d [(f,y)]->Q e H'):∀e,H e=none->EB C f [.ref e,y] (aB H e (b7 e C none true)) (fun v H2=>v= .non/\Q e H2) E0:=
 fun e he=>⟨e,y,rfl,bh,fun d H' x=>⟨rfl,k e d H' (KQ he x)⟩⟩
theorem VZ{H:Hp}{C:Addr}{f g:Str}{y z:V}{Q:Addr->Hp->Prop}(k:∀e d H',Gn H H' e C d [(f,y),(g,z)]->Q e H'):∀e,H e=none->Hj C f g [.ref e,y,z] (aB H e (b7 e C none true)) (fun v H2=>v= .non/\Q e H2) E0:=
 fun e he=>⟨e,y,z,rfl,bh,fun d H' x=>⟨rfl,k e d H' (KQ he x)⟩⟩
structure IU(H:Hp)(e C:Addr)(fs:List (Str×V)):Prop where
 ex:∃d fr,H e=some (b7 e C (some d) fr)/\H d=some (tG d fs)
theorem zyt{K:aa}{H:Hp}{e C:Addr}{fs:List (Str×V)}{f:Str}{v:V}{Q:VK}(x:IU H e C fs)(xc:XC K C)(hf:ai K (.ref C) f=some none)(hv:fs.lookup f=some v)(q:Q v H):
    ∃e' C' d fr fs v,V.ref e= .ref e'/\H e'=some (b7 e' C' (some d) fr)/\H d=some (tG d fs)/\XC K C'/\ai K (.ref C') f=some none/\fs.lookup f=some v/\Q v H:=by
  obtain⟨d,fr,h1,h2⟩:=x.ex;exact⟨e,C,d,fr,fs,v,rfl,h1,h2,xc,hf,hv,q⟩
theorem Me{K:aa}{H:Hp}{σ:St}{i:Nat}{e C:Addr}{fs:List (Str×V)}{f:Str}{v:V}{Q:VK}(hi:σ[i]?=some (some (.ref e)))(x:IU H e C fs)(xc:XC K C)(hf:ai K (.ref C) f=some none)(hv:fs.lookup f=some v)(q:Q v H):FW K (qM i) f σ H Q:=
 ⟨_,hi,zyt x xc hf hv q⟩
section
variable{X:Cx}
end
theorem Row.ne{H:Hp}{l m:Addr}{ps:List Addr}{qs:List Q4}(R:Row H l ps qs)(h:H m=none):l≠m:=gq R.hl h
end L2
namespace Sw
open L2
def oO(i:Nat)(b:Int)(q:Q4):Prop:=i<60/\0<=q.1/\q.1<=1000000000000/\0<=q.2.1/\q.2.1<=11/\1<=q.2.2.1/\q.2.2.1<=1000000/\1<=q.2.2.2/\q.2.2.2<=1000000/\b<=q.1
instance (i:Nat)(b:Int)(q:Q4):Decidable (oO i b q):=by unfold oO;infer_instance
def jK:List Q4->Nat->Int->Option Nat
 |[],_,_=>none
 |q::r,i,b=>if oO i b q then jK r (i+1) q.1 else some i
theorem BV{q:Q4}{r:List Q4}{i:Nat}{b:Int}(h:oO i b q):jK (q::r) i b=jK r (i+1) q.1:=if_pos h
theorem BU{q:Q4}{r:List Q4}{i:Nat}{b:Int}(h:¬oO i b q):jK (q::r) i b=some i:=if_neg h
theorem B4{α:Type}{xs:List α}{i:Nat}{x:α}(h:xs[i]?=some x):xs.drop i=x::xs.drop (i+1):=by obtain⟨h1,rfl⟩:=aE.mp h;exact ww h1
end Sw
namespace L2
open PySem PySem.Spec PyProof.Rows
def jk(K:aa)(fd:FuncData)(ps:List Str)(dX:List V):Prop:=∃ds,bP dX ds/\Binds K fd ps ds
theorem jk.nil{K:aa}{fd:FuncData}{ps:List Str}(h:Binds K fd ps []):jk K fd ps []:=⟨[],.nil,h⟩
structure DR(K:aa)(x bF:Str)(st:Stmt)(f:Addr)(fd:FuncData):Prop where
 ex:∃(oc:Value)(od:Option Addr)(dV kV kK pm:Value)(an:Option Addr)(bL ct:Value)(nX:Array (Option Value)),
  fd=aT x bF (tH st) (lY st) (b8 st) dV kV kK pm an bL ct/\K.lookup f=some ⟨oc,od,.func fd,nX⟩/\bD K bL bF=true
theorem K4{K:aa}{x bF:Str}{st:Stmt}{f:Addr}{oc:Value}{od an:Option Addr}{nX:Array (Option Value)}{dV kV kK pm bL ct:Value}(l:K.lookup f=some ⟨oc,od,.func (aT x bF (tH st) (lY st) (b8 st) dV kV kK pm an bL ct),nX⟩)(c:bD K bL bF=true):DR K x bF st f (aT x bF (tH st) (lY st) (b8 st) dV kV kK pm an bL ct):=⟨⟨oc,od,dV,kV,kK,pm,an,bL,ct,nX,rfl,l,c⟩⟩
theorem Sg{K:aa}{fd:FuncData}{ps:List Str}{ds:List Value}{T:Addr}{oc:Value}{od:Option Addr}{n:Nat}{nX:Array (Option Value)}{items:Array Value}(hd:fd.defaults= .ref T)(lk:K.lookup T=some ⟨oc,od,.seq items n,nX⟩)(h:∀us:List Value,(us++ds).length=ps.length->∃k:Option (Array Value)->Sem (List (Str×Value)),bindArgs fd ⟨us,[]⟩=seqItems? fd.defaults >>=k/\k (some items)=pure (ps.zip (us++ds))):Binds K fd ps ds:=fun s us kx hl=>by
  obtain⟨k,h1,h2⟩:=h us hl;exact BindsTo.of_defaults hd (kx _ _ lk) rfl h1 h2
structure eg(P:Program)(w:World)(K:aa)(mg:Str->Option Value)(base:Heap)(CX:mZ)(k:Nat)(C:Addr)(m:Str)(ps:List Str)(mP:List (List V))(sp:Sp):Prop where
 ex:∃(f:Addr)(fd:FuncData),nh P w K mg base CX k f fd ps sp/\Gg K C m f/\∀dX∈mP,jk K fd ps dX
structure Dj(P:Program)(w:World)(K:aa)(mg:Str->Option Value)(base:Heap)(CX:mZ)(k:Nat)(C:Addr)(ps:List Str)(mP:List (List V))(sp:Sp):Prop where
 ex:∃(f:Addr)(fd:FuncData),nh P w K mg base CX k f fd ps sp/\Mk K C f/\∀dX∈mP,jk K fd ps dX
structure d8(K:aa)(C:Addr)(m bF:Str)(st:Stmt)(ps:List Str)(mP:List (List V)):Prop where
 ex:∃(f:Addr)(fd:FuncData),DR K m bF st f fd/\Gg K C m f/\∀dX∈mP,jk K fd ps dX
structure nD(K:aa)(C:Addr)(bF:Str)(st:Stmt)(ps:List Str)(mP:List (List V)):Prop where
 ex:∃(f:Addr)(fd:FuncData),DR K "__init__" bF st f fd/\Mk K C f/\∀dX∈mP,jk K fd ps dX
section
variable{P:Program}{w:World}{K:aa}{mg:Str->Option Value}{base:Heap}{CX:mZ}{C:Addr}{m bF:Str}{st:Stmt}{N ps:List Str}{mP:List (List V)}{k:Nat}{sp:Sp}
theorem d8.okN(F:d8 K C m bF st ps mP)(S:au N ps (b8 st))(len:∀vs H Q E,sp vs H Q E->vs.length=ps.length)(fR:∀(f:Addr)(bL:Value)(A:Around)(outer:List Env)(s:Shared)(H:Hp)(vs:List V)(Q:VK)(E:XK),e9 k (A.deeper (envOfC bF (b8 st) s.heap.objs.size f bL))->sp vs H Q E->
      ∃t,qU (ku CX P w K mg base N bF (b8 st) f bL A outer s H E).xR (lY st) t/\t {nx:=fun _ H'=>Q .non H',rt:=Q} (start N vs) H):eg P w K mg base CX (k+1) C m ps mP sp:=by
  obtain⟨f,fd,F,me,b⟩:=F.ex;obtain⟨oc,od,dV,kV,kK,pm,an,bL,ct,nX,rfl,lk,lB⟩:=F.ex;exact⟨f,_,nG lk lB S len fun A outer s H vs Q E hr m8=>by obtain⟨t,h,q⟩:=fR f bL A outer s H vs Q E hr m8;exact⟨t,h.xR,q⟩,me,b⟩
theorem d8.jS(F:d8 K C m bF st ps mP)(S:au N ps (b8 st))(len:∀vs H Q E,sp vs H Q E->vs.length=ps.length)(fR:∀(f:Addr)(bL:Value)(A:Around)(outer:List Env)(s:Shared)(H:Hp)(vs:List V)(Q:VK)(E:XK),e9 k (A.deeper (envOfC bF (b8 st) s.heap.objs.size f bL))->sp vs H Q E->
      ∃t,qU (ku (eK P w) P w K mg base N bF (b8 st) f bL A outer s H E) (lY st) t/\t {nx:=fun _ H'=>Q .non H',rt:=Q} (start N vs) H):eg P w K mg base (eK P w) (k+1) C m ps mP sp:=by
  obtain⟨f,fd,F,me,b⟩:=F.ex;obtain⟨oc,od,dV,kV,kK,pm,an,bL,ct,nX,rfl,lk,lB⟩:=F.ex;exact⟨f,_,nG lk lB S len fun A outer s H vs Q E hr m8=>fR f bL A outer s H vs Q E hr m8,me,b⟩
theorem nD.okN(F:nD K C bF st ps mP)(S:au N ps (b8 st))(len:∀vs H Q E,sp vs H Q E->vs.length=ps.length)(fR:∀(f:Addr)(bL:Value)(A:Around)(outer:List Env)(s:Shared)(H:Hp)(vs:List V)(Q:VK)(E:XK),e9 k (A.deeper (envOfC bF (b8 st) s.heap.objs.size f bL))->sp vs H Q E->
      ∃t,qU (ku CX P w K mg base N bF (b8 st) f bL A outer s H E).xR (lY st) t/\t {nx:=fun _ H'=>Q .non H',rt:=Q} (start N vs) H):Dj P w K mg base CX (k+1) C ps mP sp:=by
  obtain⟨f,fd,F,me,b⟩:=F.ex;obtain⟨oc,od,dV,kV,kK,pm,an,bL,ct,nX,rfl,lk,lB⟩:=F.ex;exact⟨f,_,nG lk lB S len fun A outer s H vs Q E hr m8=>by obtain⟨t,h,q⟩:=fR f bL A outer s H vs Q E hr m8;exact⟨t,h.xR,q⟩,me,b⟩
theorem nD.jS(F:nD K C bF st ps mP)(S:au N ps (b8 st))(len:∀vs H Q E,sp vs H Q E->vs.length=ps.length)(fR:∀(f:Addr)(bL:Value)(A:Around)(outer:List Env)(s:Shared)(H:Hp)(vs:List V)(Q:VK)(E:XK),e9 k (A.deeper (envOfC bF (b8 st) s.heap.objs.size f bL))->sp vs H Q E->
      ∃t,qU (ku (eK P w) P w K mg base N bF (b8 st) f bL A outer s H E) (lY st) t/\t {nx:=fun _ H'=>Q .non H',rt:=Q} (start N vs) H):Dj P w K mg base (eK P w) (k+1) C ps mP sp:=by
  obtain⟨f,fd,F,me,b⟩:=F.ex;obtain⟨oc,od,dV,kV,kK,pm,an,bL,ct,nX,rfl,lk,lB⟩:=F.ex;exact⟨f,_,nG lk lB S len fun A outer s H vs Q E hr m8=>fR f bL A outer s H vs Q E hr m8,me,b⟩
end
def My(C:Addr)(m:Str)(sp:Sp)(dX:List V)(Ek:XH)(ta:TE)(t:TA):TE:=fun σ H Q=>ta σ H fun x H1=>∃a dx fs,x= .ref a/\H1 a=some (.ins C dx fs)/\fs.lookup m=none/\
 t σ H1 fun vs H2=>sp (x::(vs++dX)) H2 Q (fun v d H'=>Ek v d σ H')
def sX(C:Addr)(sp:Sp)(dX:List V)(Ek:XH)(t:TA):TE:=fun σ H Q=>t σ H fun vs H1=>∀x dx,H1 x=none->H1 dx=none->dx≠x->
 sp (.ref x::(vs++dX)) (aB (aB H1 dx (.own x)) x (.ins C dx [])) (fun v H2=>v= .non/\Q (.ref x) H2) (fun v d H'=>Ek v d σ H')
section
variable{X:Cx}{CX:mZ}{k:Nat}{f C:Addr}{fd:FuncData}{ps:List Str}{sp:Sp}{dX:List V}{mP:List (List V)}{Ek:XH}{x m:Str}{p pos fP:Pos}{e o:Expr}{es:List Expr}{ta:TE}{t:TA}
theorem O6{ae:List (Addr×Obj)}{σ:St}{H:Hp}{s:Shared}{Q:VK}{us:List Value}{vs:List V}(F:nh X.prog X.w X.K X.mg X.base CX k f fd ps sp)(hr:e9 k X.A)(hb:jk X.K fd ps dX)(hx:BB CX X Ek)(I:Inv X ae σ H s)(r:bP vs us)(h:sp (vs++dX) H Q (fun v d H'=>Ek v d σ H')):wpAny (model X.prog X.w) X.A (call (.ref f) us) (EP X ae σ Q) X.xe s:=by
  obtain⟨ds,hd,hb⟩:=hb;have r2:bP (vs++dX) (us++ds):=r.append hd;have hl:(us++ds).length=ps.length:=by rw[<-r2.length];exact F.len _ _ _ _ h
  refine wpAny_call (codeAny_mono (F.run X.A X.stack s H ⟨us,[]⟩ (us++ds) (vs++dX) Q _ hr I.B5 (hb s us I.l7 hl) r2 h) fun r s' hq=>?_);cases r with
  |error e=>exact hx ae σ H s e s' I hq
  |ok fl=>
    cases fl with
    |ret u=>exact I.after hq
    |next=>exact aX hq
    |brk=>exact aX hq
    |cont=>exact aX hq
theorem j9{pl:Sem Bool}(D:eg X.prog X.w X.K X.mg X.base CX k C m ps mP sp)(GB:dX∈mP)(c:uW X.K C)(hr:e9 k X.A)(hx:BB CX X Ek)(he:PE X o ta)(ha:PA X (e::es) t)(Bq:starEach (e::es) X.env=(false,eval e X.env)::starEach es X.env:=by rfl)(uE:(backTo pos (starEach es X.env)).any (·.1)=false:=by rfl)(ht:eval (.Call (.Attribute o m fP) (e::es) [] pos) X.env=(do
      let ov <-eval o X.env
      standAt fP.atName
      let(f,first) <-holding [ov] (getMethod ov m pl)
      callWith pos f first (backTo pos (starEach (e::es) X.env)) (backToKw pos (keywordEach [] X.env))):=by rfl):
    PE X (.Call (.Attribute o m fP) (e::es) [] pos) (My C m sp dX Ek ta t):=by
  obtain⟨f,fd,F,hm,hb⟩:=D.ex;intro ae s σ H Q I h;refine kJ (pl:=pl) (d7 (he ae s σ H _ I h) fun u s1⟨x,H1,I1,rx,a,dx,fs,ex,ea,l,q⟩=>?_) ht;subst ex;obtain rfl:u=Value.ref a:=rx;refine Sd I1 ea c hm l ?_;refine eB (first:=[.ref a]) (h₀:=X.base) I.ok.mod.Bu hm.kp (d7 (ha pos ae s1 σ H1 _ I1 q) fun us s2⟨vs,H2,I2,r,q2⟩=>⟨I2.l7,?_⟩) Bq uE;exact O6 (us:=.ref a::us) (vs:=.ref a::vs) F hr (hb _ GB) hx I2 (.cons rfl r) q2
theorem OE{pl:Sem Bool}(D:eg X.prog X.w X.K X.mg X.base CX k C m ps mP sp)(GB:dX∈mP)(c:uW X.K C)(hr:e9 k X.A)(hx:BB CX X Ek)(he:PE X o ta)(ht:eval (.Call (.Attribute o m fP) [] [] pos) X.env=(do
      let ov <-eval o X.env
      standAt fP.atName
      let(f,first) <-holding [ov] (getMethod ov m pl)
      callWith pos f first (backTo pos (starEach [] X.env)) (backToKw pos (keywordEach [] X.env))):=by rfl):
    PE X (.Call (.Attribute o m fP) [] [] pos) (My C m sp dX Ek ta A9):=by
  obtain⟨f,fd,F,hm,hb⟩:=D.ex;intro ae s σ H Q I h;refine kJ (pl:=pl) (d7 (he ae s σ H _ I h) fun u s1⟨x,H1,I1,rx,a,dx,fs,ex,ea,l,q⟩=>?_) ht;subst ex;obtain rfl:u=Value.ref a:=rx;refine Sd I1 ea c hm l ?_;exact zg (first:=[.ref a]) I1.l7 hm.kp (O6 (us:=[.ref a]) (vs:=[.ref a]) F hr (hb _ GB) hx I1 (.cons rfl .nil) q)
theorem SK{ae:List (Addr×Obj)}{σ:St}{H:Hp}{s:Shared}{Q:VK}{us:List Value}{vs:List V}(M:Mk X.K C f)(F:nh X.prog X.w X.K X.mg X.base CX k f fd ps sp)(hr:e9 (k+1) X.A)(hb:jk X.K fd ps dX)(hx:BB CX X Ek)(I:Inv X ae σ H s)(r:bP vs us)(h:∀x dx,H x=none->H dx=none->dx≠x->sp (.ref x::(vs++dX)) (aB (aB H dx (.own x)) x (.ins C dx [])) (fun v H2=>v= .non/\Q (.ref x) H2) (fun v d H'=>Ek v d σ H')):
    wpAny (model X.prog X.w) X.A (call (.ref C) us) (EP X ae σ Q) X.xe s:=by
  obtain⟨ds,hd,hb⟩:=hb;have hq:=h (s.heap.objs.size+1) s.heap.objs.size (I.cu.fresh (gK _)) (I.cu.fresh (ao _)) (aJ (Gh _));have I2:=Inv.made (C:=C) I;have r2:bP (V.ref (s.heap.objs.size+1)::(vs++dX)) (Value.ref (s.heap.objs.size+1)::(us++ds)):=.cons rfl (r.append hd);have hl:(Value.ref (s.heap.objs.size+1)::us++ds).length=ps.length:=by have e:=r2.length;rw[F.len _ _ _ _ hq]at e;exact e.symm
  refine wpAny_call (Zg (f:=f) I.l7 M.makes M.init (beq_iff_eq.mp M.fn) (codeAny_mono (F.run _ X.stack _ _ ⟨Value.ref (s.heap.objs.size+1)::us,[]⟩ (Value.ref (s.heap.objs.size+1)::(us++ds)) _ _ _ (hr.make C us [])
    (I2.B5.make C us []) (hb _ (Value.ref (s.heap.objs.size+1)::us) I2.l7 hl) r2 hq) fun r s' Jy=>?_));cases r with
  |error e=>exact hx ae σ _ _ e s' I2 Jy
  |ok fl=>
    cases fl with
    |ret u=>
      obtain⟨v,H',I3,rv,ev,q3⟩:=I2.after Jy;subst ev;exact⟨rv,⟨V.ref (s.heap.objs.size+1),H',I3,rfl,q3⟩⟩
    |next=>exact aX Jy
    |brk=>exact aX Jy
    |cont=>exact aX Jy
theorem DI(D:Dj X.prog X.w X.K X.mg X.base CX k C ps mP sp)(GB:dX∈mP)(hr:e9 (k+1) X.A)(hx:BB CX X Ek)(hg:Gl X x)(hm:X.mg x=some (.ref C))(ha:PA X (e::es) t)(vn:(x ==("__debug__":Str))=false:=by decide)(he:starEach (e::es) X.env=(false,eval e X.env)::starEach es X.env:=by rfl)(uE:(backTo pos (starEach es X.env)).any (·.1)=false:=by rfl):
    PE X (.Call (.Name x p) (e::es) [] pos) (sX C sp dX Ek t):=by
  obtain⟨f,fd,F,M,hb⟩:=D.ex;intro ae s σ H Q I h;refine wpAny_Call_Name_kw (EO I hg hm ?_ vn);refine eB (h₀:=X.base) I.ok.mod.Bu M.kp (d7 (ha pos ae s σ H _ I h) fun us s1⟨vs,H1,I1,r,q⟩=>⟨I1.l7,?_⟩) he uE;exact SK M F hr (hb _ GB) hx I1 r q
theorem SM(D:Dj X.prog X.w X.K X.mg X.base CX k C ps mP sp)(GB:dX∈mP)(hr:e9 (k+1) X.A)(hx:BB CX X Ek)(hg:Gl X x)(hm:X.mg x=some (.ref C))(vn:(x ==("__debug__":Str))=false:=by decide):PE X (.Call (.Name x p) [] [] pos) (sX C sp dX Ek A9):=by
  obtain⟨f,fd,F,M,hb⟩:=D.ex;intro ae s σ H Q I h;refine wpAny_Call_Name_kw (EO I hg hm ?_ vn);exact zg I.l7 M.kp (SK (us:=[]) M F hr (hb _ GB) hx I .nil h)
end
section
variable{X:Cx}
end
def MD(lo c:Int)(n:Nat):It:=⟨fun i _=>i<n,fun i H x H'=>H'=H/\x= .int (lo+i*c),fun i _=>n<=i⟩
structure IT(i j c:Int)(n:Nat):Prop where
 nz:c≠0
 np:Builtin.divisionGoesByPylong (j-i) c=false
 sm:Builtin.Range.small i j c=true
 eq:(n:Int)=Builtin.Range.rangeSize i j c
def Ck(ta:TA):TI:=fun σ H R=>ta σ H fun vs H1=>∃i j c n,vs=[.int i,.int j,.int c]/\IT i j c n/\R (MD i c n) H1
section
variable{X:Cx}{tg:Expr}
end
theorem OM{wi:TI}{g:TG}{tb:TS}{D:Ends}{σ:St}{H:Hp}(h:∀Z:It->Hp->Prop,(∀J H1,(∃W:Nat->Nat->St->Hp->Prop,(∃m,W 0 m σ H1)/\∀i m σ H,W i m σ H->
 (J.stop i H/\D.nx σ H)\/(J.go i H/\∃N:St->Hp->Prop,(∀σ' H',N σ' H'->∃m',m' < m/\W (i+1) m' σ' H')/\∀x H',J.F0 i H x H'->g x σ H' fun σ2 H2=>tb {D with nx:=N,ct:=N,bk:=D.nx} σ2 H2))->Z J H1)->wi σ H Z):KL wi g tb D σ H:=h _ fun _ _ x=>x
section
variable{X:Cx}
end
end L2
namespace Sw
theorem eV{d:Int}(h:d≠0):(d:Rat)≠0:=by intro z;exact h (vc.mp (by rw[z];rfl))
theorem zyu(q:Rat):(q.num:Rat) / ((q.den:Int):Rat)=q:=by rw[<-Rat.divInt_eq_div];exact Rat.num_divInt_den q
theorem YU(q:Rat):0<(q.den:Int):=by have:=q.den_nz;omega
theorem dj(q:Rat):(q.den:Int)≠0:=by have:=q.den_nz;omega
theorem pT(q:Rat):(q.num:Rat)=q*((q.den:Int):Rat):=by have h:=zyu q;have d:=eV (dj q);grind
theorem CH(q:Rat):dv q.num q.den=1:=by unfold dv;have:=q.reduced;unfold BL at this;show((Nat.gcd q.num.natAbs (q.den:Int).natAbs:Nat):Int)=1;rw[pY,this];rfl
theorem NS(q:Rat):Fr q.num q.den:=⟨YU q,CH q⟩
theorem MX{n d:Int}(f:Fr n d):((n:Rat) / (d:Rat)).num=n/\((((n:Rat) / (d:Rat)).den:Nat):Int)=d:=by
 have hd:d≠0:=by have:=f.pos;omega
 refine Fr.uniq (NS _) f ?_;have h:=pT ((n:Rat) / (d:Rat));generalize hq:(n:Rat) / (d:Rat)=q at h⊢;have e:(n:Rat)=q*d:=by have:=eV hd;grind
 have:((q.num*d:Int):Rat)=((n*(q.den:Int):Int):Rat):=by rw[bH,bH];grind
 exact vc.mp this
theorem zwx{q:Rat}{n d:Int}(hd:d≠0)(h:q=(n:Rat) / (d:Rat)):q.num*d=(q.den:Int)*n:=by
 have h1:=eV hd;have:((q.num*d:Int):Rat)=(((q.den:Int)*n:Int):Rat):=by rw[bH,bH,pT];grind
 exact vc.mp this
theorem JX{a b:Rat}:a.num*(b.den:Int)<b.num*(a.den:Int)↔a<b:=(Rat.lt_iff a b).symm
structure fM(z:Nat)(q:Rat):Prop where
 n:Sz z q.num
 d:Sz z (q.den:Int)
theorem fM.mono{m n:Nat}{q:Rat}(h:fM m q)(k:m<=n):fM n q:=⟨h.n.mono k,h.d.mono k⟩
theorem Zy{n d x:Int}(h:dv n d=1)(q:n∣d*x):n∣x:=Ml (by rw[zwq];exact h) q
theorem fM.of {z:Nat} {q:Rat} {n d:Int} (hd:d≠0) (h:q=(n:Rat) / (d:Rat)) (s1:Sz z n) (s2:Sz z d):fM z q:=by
 have c:=zwx hd h
 refine ⟨?_,?_⟩
 ·by_cases hn:n = 0
  ·subst hn
   rw [Int.mul_zero] at c
   have:q.num = 0:=by
    rcases Int.mul_eq_zero.mp c with z | z
    ·exact z
    ·exact absurd z hd
   rw [this]; exact Sz.zero z
  ·exact s1.dvd (Zy (CH q) ⟨d,c.symm⟩) hn
 ·exact s2.dvd (Ml (CH q) ⟨n,c⟩) hd
theorem fM.int{z:Nat}{n:Int}(h:Sz (z+1) n):fM (z+1) (n:Rat):=⟨by rw[HU];exact h,by rw[HR];exact Sz.one z⟩
theorem E1(a b:Rat):((a.num*(b.den:Int)+b.num*(a.den:Int):Int):Rat) / (((a.den:Int)*(b.den:Int):Int):Rat)=a+b:=by rw[Rat.intCast_add,bH,bH,bH,pT a,pT b];have h1:=eV (dj a);have h2:=eV (dj b);grind
theorem FO(a b:Rat):((a.num*(b.den:Int)-b.num*(a.den:Int):Int):Rat) / (((a.den:Int)*(b.den:Int):Int):Rat)=a-b:=by rw[HS,bH,bH,bH,pT a,pT b];have h1:=eV (dj a);have h2:=eV (dj b);grind
theorem Fj(a b:Rat):((a.num*b.num:Int):Rat) / (((a.den:Int)*(b.den:Int):Int):Rat)=a*b:=by rw[bH,bH,pT a,pT b];have h1:=eV (dj a);have h2:=eV (dj b);grind
theorem fM.add{m n:Nat}{a b:Rat}(h:fM m a)(k:fM n b):fM (m+n+1) (a+b):=by refine .of (gF (dj a) (dj b)) (E1 a b).symm ?_ ((h.d.mul k.d).mono (by omega));exact(h.n.mul k.d).add ((k.n.mul h.d).mono (by omega))
theorem fM.sub{m n:Nat}{a b:Rat}(h:fM m a)(k:fM n b):fM (m+n+1) (a-b):=by refine .of (gF (dj a) (dj b)) (FO a b).symm ?_ ((h.d.mul k.d).mono (by omega));exact(h.n.mul k.d).sub ((k.n.mul h.d).mono (by omega))
theorem fM.mul{m n:Nat}{a b:Rat}(h:fM m a)(k:fM n b):fM (m+n) (a*b):=
 .of (gF (dj a) (dj b)) (Fj a b).symm (h.n.mul k.n) (h.d.mul k.d)
end Sw
namespace L2
def fq(q:Rat):List V:=[.int q.num,.int (q.den:Int)]
theorem Pd{t b:Int}(hb:b≠0):f2 (Sw.DE (t,b))=fq ((t:Rat) / (b:Rat)):=by
 have f:=Sw.G2 (q:=(t,b)) hb;have c:=Sw.AZ (q:=(t,b)) hb;have e:((Sw.DE (t,b)).1:Rat) / ((Sw.DE (t,b)).2:Rat)=(t:Rat) / (b:Rat):=by
  have h1:=Sw.eV hb;have h2:(((Sw.DE (t,b)).2:Int):Rat)≠0:=Sw.eV (by have:=f.pos;omega);have c':(((Sw.DE (t,b)).1*b:Int):Rat)=(((Sw.DE (t,b)).2*t:Int):Rat):=by rw[c]
  rw[bH,bH]at c';grind
 have g:=Sw.MX f;rw[e]at g;unfold f2 fq;rw[g.1,g.2]
theorem Uy(n:Int):[V.int n,V.int 1]=fq (n:Rat):=by unfold fq;rw[HU,HR];rfl
end L2
namespace Sw
def lvl(d:Int)(r:Rat)(Kh:Int)(left:Rat)(at_:Int):Rat:=min (left+r*((at_ - Kh:Int):Rat)) (d:Rat)
theorem fM.min{z:Nat}{a b:Rat}(ha:fM z a)(hb:fM z b):fM z (min a b):=by
 rw[uv];split
 ·exact ha
 ·exact hb
end Sw
namespace L2
open PySem PySem.Spec PyProof.Rows
def qR(p:Addr)(H H':Hp):Prop:=∀b o,b≠p->H b=some o->H' b=some o
theorem aQ.but{p:Addr}{H H':Hp}(h:aQ H H'):qR p H H':=fun b o _ e=>h b o e
theorem qR.trans{p:Addr}{H H1 H2:Hp}(a:qR p H H1)(b:qR p H1 H2):qR p H H2:=fun c o n h=>b c o n (a c o n h)
theorem IB{p:Addr}{H:Hp}{o:HO}:qR p H (aB H p o):=fun b u n e=>by rw[bw n];exact e
theorem Iw:∀{fs:List (Str×V)}{f:Str}{v w:V},fs.lookup f=some w->(ak f v fs).length=fs.length
 |[],f,v,w,h=>by cases h
 |(g,x)::r,f,v,w,h=>by
  unfold ak;by_cases e:g=f
  ·rw[if_pos e];rfl
  ·rw[if_neg e];have hb:(f ==g)=false:=beq_eq_false_iff_ne.mpr fun z=>e z.symm;simp only[gG,hb]at h;show(ak f v r).length+1=r.length+1;rw[Iw h]
theorem gP:∀{fs:List (Str×V)}{f:Str}{v:V},(ak f v fs).length<=fs.length+1
 |[],f,v=>ao _
 |(g,x)::r,f,v=>by
  unfold ak;by_cases e:g=f
  ·rw[if_pos e];exact gK _
  ·rw[if_neg e];show(ak f v r).length+1<=r.length+1+1;have:=gP (fs:=r) (f:=f) (v:=v);omega
structure FB(fs:List (Str×V))(d:Int)(pr:Addr)(s:Int)(pl:Addr):Prop where
 dep:fs.lookup ("depth":Str)=some (.int d)
 rat:fs.lookup ("rate":Str)=some (.ref pr)
 sin:fs.lookup ("since":Str)=some (.int s)
 Qs:fs.lookup ("left":Str)=some (.ref pl)
 no:∀m:Str,¬m="depth"->¬m="rate"->¬m="since"->¬m="left"->fs.lookup m=none
 len:fs.length<900
theorem FB.Eu(d:Int)(pr:Addr)(s:Int)(pl:Addr):FB (ak "left" (.ref pl) (ak "since" (.int s) (ak "rate" (.ref pr) (ak "depth" (.int d) [])))) d pr s pl:=by
 have n1:¬(("depth":Str)="left"):=by decide+kernel
 have n2:¬(("depth":Str)="since"):=by decide+kernel
 have n3:¬(("depth":Str)="rate"):=by decide+kernel
 have n4:¬(("rate":Str)="left"):=by decide+kernel
 have n5:¬(("rate":Str)="since"):=by decide+kernel
 have n6:¬(("since":Str)="left"):=by decide+kernel
 refine⟨?_,?_,?_,?_,fun m h1 h2 h3 h4=>?_,?_⟩
 ·rw[mY,if_neg n1,mY,if_neg n2,mY,if_neg n3,mY,if_pos rfl]
 ·rw[mY,if_neg n4,mY,if_neg n5,mY,if_pos rfl]
 ·rw[mY,if_neg n6,mY,if_pos rfl]
 ·rw[mY,if_pos rfl]
 ·rw[mY,if_neg h4,mY,if_neg h3,mY,if_neg h2,mY,if_neg h1];rfl
 ·have a1:=gP (fs:=[]) (f:="depth") (v:=.int d);have a2:=gP (fs:=ak "depth" (.int d) []) (f:="rate") (v:=.ref pr);have a3:=gP (fs:=ak "rate" (.ref pr) (ak "depth" (.int d) [])) (f:="since") (v:=.int s);have a4:=gP (fs:=ak "since" (.int s) (ak "rate" (.ref pr) (ak "depth" (.int d) []))) (f:="left") (v:=.ref pl);simp only[aU]at a1;omega
theorem FB.Wb{fs:List (Str×V)}{d s s':Int}{pr pl QC:Addr}(h:FB fs d pr s pl):FB (ak "left" (.ref QC) (ak "since" (.int s') fs)) d pr s' QC:=by
 have n1:¬(("depth":Str)="left"):=by decide+kernel
 have n2:¬(("depth":Str)="since"):=by decide+kernel
 have n4:¬(("rate":Str)="left"):=by decide+kernel
 have n5:¬(("rate":Str)="since"):=by decide+kernel
 have n6:¬(("since":Str)="left"):=by decide+kernel
 have n7:¬(("left":Str)="since"):=by decide+kernel
 refine⟨?_,?_,?_,?_,fun m h1 h2 h3 h4=>?_,?_⟩
 ·rw[mY,if_neg n1,mY,if_neg n2];exact h.dep
 ·rw[mY,if_neg n4,mY,if_neg n5];exact h.rat
 ·rw[mY,if_neg n6,mY,if_pos rfl]
 ·rw[mY,if_pos rfl]
 ·rw[mY,if_neg h4,mY,if_neg h3];exact h.no m h1 h2 h3 h4
 ·rw[Iw (w:=.ref pl) (by rw[mY,if_neg n7];exact h.Qs),Iw h.sin];exact h.len
structure Bk(C:Addr)(H:Hp)(p:Addr)(d:Int)(r:Rat)(s:Int)(l:Rat):Prop where
 ex:∃dx fs pr pl,H p=some (.ins C dx fs)/\FB fs d pr s pl/\H pr=some (.tup (fq r))/\H pl=some (.tup (fq l))
def G8(K:aa)(f:Str)(x:V)(H:Hp)(Q:VK):Prop:=∃a C dx fs v,x= .ref a/\H a=some (.ins C dx fs)/\uW K C/\bK K C f/\fs.lookup f=some v/\Q v H
theorem vQ{K:aa}{ta:TE}{f:Str}{σ:St}{H:Hp}{Q:VK}:Hu K ta f σ H Q=ta σ H fun x H1=>G8 K f x H1 Q:=rfl
theorem jd{K:aa}{f:Str}{a C dx:Addr}{fs:List (Str×V)}{v:V}{H:Hp}{Q:VK}(h:H a=some (.ins C dx fs))(c:uW K C)(n:bK K C f)(l:fs.lookup f=some v)(q:Q v H):G8 K f (.ref a) H Q:=⟨a,C,dx,fs,v,rfl,h,c,n,l,q⟩
def J9(K:aa)(f:Str)(y x:V)(H:Hp)(Z:Hp->Prop):Prop:=∃a C dx fs,x= .ref a/\H a=some (.ins C dx fs)/\uW K C/\bK K C f/\fs.length<1000/\Z (aB H a (.ins C dx (ak f y fs)))
theorem vG{K:aa}{ta tv:TE}{f:Str}{D:Ends}{σ:St}{H:Hp}:Kd K ta tv f D σ H=tv σ H fun y H1=>ta σ H1 fun x H2=>J9 K f y x H2 (D.nx σ):=rfl
theorem mD{K:aa}{f:Str}{y:V}{a C dx:Addr}{fs:List (Str×V)}{H:Hp}{Z:Hp->Prop}(h:H a=some (.ins C dx fs))(c:uW K C)(n:bK K C f)(l:fs.length<1000)(q:Z (aB H a (.ins C dx (ak f y fs)))):J9 K f y (.ref a) H Z:=⟨a,C,dx,fs,rfl,h,c,n,l,q⟩
def xh(C:Addr)(m:Str)(x:V)(H:Hp)(Z:Prop):Prop:=∃a dx fs,x= .ref a/\H a=some (.ins C dx fs)/\fs.lookup m=none/\Z
theorem pC{C:Addr}{m:Str}{sp:Sp}{dX:List V}{Ek:XH}{ta:TE}{t:TA}{σ:St}{H:Hp}{Q:VK}:
    My C m sp dX Ek ta t σ H Q=ta σ H fun x H1=>xh C m x H1 (t σ H1 fun vs H2=>sp (x::(vs++dX)) H2 Q (fun v d H'=>Ek v d σ H')):=by
  unfold My xh;rfl
theorem kh{C:Addr}{m:Str}{a dx:Addr}{fs:List (Str×V)}{H:Hp}{Z:Prop}(h:H a=some (.ins C dx fs))(l:fs.lookup m=none)(z:Z):xh C m (.ref a) H Z:=⟨a,dx,fs,rfl,h,l,z⟩
theorem xU{H:Hp}{x dx C:Addr}(h1:H x=none)(h2:H dx=none):aQ H (aB (aB H dx (.own x)) x (.ins C dx [])):=fun b o e=>by rw[bw (gq e h1),bw (gq e h2)];exact e
theorem qR.same{x:Addr}{H H1 H':Hp}(b:qR x H1 H')(s:aQ H H1)(h:H x=none):aQ H H':=fun c o e=>b c o (gq e h) (s c o e)
theorem EQ{H:Hp}{p:Addr}{n:Int}:aB H p (.tup [.int n,.int 1]) p=some (.tup (fq (n:Rat))):=by rw[bh,Uy]
theorem Mq{n:Int}(h:Sw.Sz 5000 n):Sw.fM 5000 (n:Rat):=Sw.fM.int h
theorem O7{t:TS}{D:Ends}{σ:St}{H:Hp}(h:∀R:St->Hp->Prop,(∀σ H,D.nx σ H->R σ H)->t {D with nx:=R} σ H):t D σ H:=h D.nx fun _ _ x=>x
structure BZ(d:Int)(r:Rat)(l:Rat):Prop where
 d:Sw.Sz 300 d
 r:Sw.fM 300 r
 l:Sw.fM 300 l
inductive zP(C:Addr)(vs:List V)(H:Hp)(Q:VK)(E:XK):Prop|mk (p t d r s l:_) (h1:vs=[.ref p,.int t]) (h2:Bk C H p d r s l) (h3:BZ d r l) (h4:Sw.Sz 300 (t-s)) (h5:∀q H',aQ H H'->H' q=some (.tup (fq (Sw.lvl d r s l t)))->Q (.ref q) H'):zP C vs H Q E
theorem zyv{d:Int}{r:Rat}{s:Int}{l:Rat}{t:Int}(z:BZ d r l)(zt:Sw.Sz 300 (t-s)):Sw.fM 1000 (Sw.lvl d r s l t):=by unfold Sw.lvl;exact Sw.fM.min ((z.l.add (z.r.mul (.int zt))).mono (by decide)) ((Sw.fM.int z.d).mono (by decide))
inductive CU(cS C:Addr)(vs:List V)(H:Hp)(Q:VK)(E:XK):Prop|mk (p t n d r s l:_) (h1:vs=[.ref p,.int t,.int n]) (h2:Bk C H p d r s l) (h3:BZ d r l) (h4:Sw.Sz 300 (t-s)) (h5:Sw.Sz 300 n) (h6:((n:Rat)<=Sw.lvl d r s l t->∀H',qR p H H'->Bk C H' p d r t (Sw.lvl d r s l t-(n:Rat))->Q .non H')) (h7:(Sw.lvl d r s l t<(n:Rat)->∀e x pm H',aQ H H'->H' e=some (b7 e cS (some x) false)->H' x=some (tG x [("missing",.ref pm)])->H' pm=some (.tup (fq ((n:Rat)-Sw.lvl d r s l t)))->E (.ref e) (some x) H')):CU cS C vs H Q E
end L2
namespace Sw
end Sw
namespace L2
open PySem PySem.Spec PyProof.Rows
section
variable{κ:Type}[DecidableEq κ]
def fk(aI:List (κ×V))(k:κ):Option V:=(aI.find? fun kv=>decide (kv.1=k)).map (·.2)
def gB(aI:List (κ×V))(k:κ)(v:V):List (κ×V):=
 if(aI.any fun kv=>decide (kv.1=k))=true then aI.map (fun kv=>if kv.1=k then(kv.1,v)else kv)else aI++[(k,v)]
def iP(aI:List (κ×V))(k:κ):List (κ×V):=aI.filter fun kv=>decide (kv.1≠k)
theorem Bb{p:κ×V}{r:List (κ×V)}{k:κ}(e:p.1=k):fk (p::r) k=some p.2:=by simp[fk,bz,e]
theorem Ab{p:κ×V}{r:List (κ×V)}{k:κ}(e:¬p.1=k):fk (p::r) k=fk r k:=by simp[fk,bz,e]
theorem HC(k:κ):∀aI:List (κ×V),(aI.any fun kv=>decide (kv.1=k))=(fk aI k).isSome
 |[]=>rfl
 |p::r=>by
  rw[j2];by_cases e:p.1=k
  ·simp only[Bb e,decide_eq_true e,zb,Option.isSome_some]
  ·rw[Ab e,decide_eq_false e,Bool.false_or];exact HC k r
theorem Tn(k j:κ)(y:V):∀aI:List (κ×V),fk (aI.map fun kv=>if kv.1=k then(kv.1,y)else kv) j=(fk aI j).map fun x=>if j=k then y else x
 |[]=>rfl
 |p::r=>by
  have ih:=Tn k j y r;rw[aM];by_cases h:p.1=k
  ·rw[if_pos h];by_cases e:p.1=j
   ·rw[Bb (p:=(p.1,y)) e,Bb e,kI,if_pos (e.symm.trans h)]
   ·rw[Ab (p:=(p.1,y)) e,Ab e,ih]
  ·rw[if_neg h];by_cases e:p.1=j
   ·rw[Bb (p:=p) e,Bb e,kI,if_neg (fun z=>h (e.trans z))]
   ·rw[Ab (p:=p) e,Ab e,ih]
theorem SN(k j:κ)(y:V):∀aI:List (κ×V),fk aI k=none->fk (aI++[(k,y)]) j=if j=k then some y else fk aI j
 |[],_=>by
  by_cases e:k=j
  ·rw[if_pos e.symm];exact Bb (p:=(k,y)) e
  ·rw[if_neg (fun z=>e z.symm)];exact Ab (p:=(k,y)) e
 |p::r,hn=>by
  rw[fT];have hk:¬p.1=k:=fun z=>by rw[Bb z]at hn;cases hn
  rw[Ab hk]at hn;have ih:=SN k j y r hn;by_cases e:p.1=j
  ·rw[Bb e,Bb e,if_neg (fun z=>hk (e.trans z))]
  ·rw[Ab e,Ab e,ih]
theorem Zz(aI:List (κ×V))(k j:κ)(y:V):fk (gB aI k y) j=if j=k then some y else fk aI j:=by
 unfold gB;by_cases a:(aI.any fun kv=>decide (kv.1=k))=true
 ·rw[if_pos a,Tn];rw[HC]at a;by_cases e:j=k
  ·obtain⟨x,hx⟩:=f9.mp a;rw[if_pos e,e,hx,kI,if_pos rfl]
  ·rw[if_neg e];cases fk aI j with
   |none=>rfl
   |some x=>rw[kI,if_neg e]
 ·rw[if_neg a];refine SN k j y aI ?_;rw[HC]at a;cases q:fk aI k with
  |none=>rfl
  |some x=>rw[q]at a;exact(a rfl).elim
theorem KU(aI:List (κ×V))(k:κ)(v:V):(gB aI k v).length<=aI.length+1:=by
 unfold gB;split
 ·rw[aj];omega
 ·rw[bY,bG,aU];omega
theorem jn.jM{o:Option V}{u:Option Value}(r:jn o u):o.isSome=u.isSome:=by
 cases o with
 |none=>cases u with
  |none=>rfl
  |some _=>exact(show False from r).elim
 |some _=>cases u with
  |none=>exact(show False from r).elim
  |some _=>rfl
theorem KV.val{aI:List (κ×V)}{vs:List (κ×Value)}(r:KV aI vs)(k:κ):jn (fk aI k) (valueAt vs k):=by
 unfold KV at r
 induction r with
 |nil=>exact bB
 | @cons p q ps qs h t ih=>
  obtain⟨h1,h2⟩:=h;by_cases e:p.1=k
  ·have e':q.1=k:=h1.symm.trans e;have b:valueAt (q::qs) k=some q.2:=by simp[valueAt,bz,e']
   rw[Bb e,b];exact h2
  ·have e':¬q.1=k:=fun z=>e (h1.trans z);have b:valueAt (q::qs) k=valueAt qs k:=by simp[valueAt,bz,e']
   rw[Ab e,b];exact ih
theorem KV.any{aI:List (κ×V)}{vs:List (κ×Value)}(r:KV aI vs)(k:κ):(aI.any fun kv=>decide (kv.1=k))=vs.any fun kv=>decide (kv.1=k):=by
 unfold KV at r
 induction r with
 |nil=>rfl
 |cons h t ih=>rw[j2,j2,ih,h.1]
theorem KV.Hg{aI:List (κ×V)}{vs:List (κ×Value)}(r:KV aI vs)(k:κ){y:V}{u:Value}(ry:RelV y u):
    KV (aI.map fun kv=>if kv.1=k then(kv.1,y)else kv) (vs.map fun kv=>if kv.1=k then(kv.1,u)else kv):=by
  unfold KV at r⊢
  induction r with
  |nil=>exact .nil
  | @cons p q ps qs h t ih=>
    rw[aM,aM];refine .cons ?_ ih;obtain⟨h1,h2⟩:=h;by_cases e:p.1=k
    · rw[if_pos e,if_pos (h1.symm.trans e)];exact⟨h1,ry⟩
    · rw[if_neg e,if_neg (fun z=>e (h1.trans z))];exact⟨h1,h2⟩
theorem KV.put{aI:List (κ×V)}{vs:List (κ×Value)}(r:KV aI vs)(k:κ){y:V}{u:Value}(ry:RelV y u):KV (gB aI k y) (stored vs k u):=by
 unfold gB stored;rw[r.any k];by_cases e:(vs.any fun kv=>decide (kv.1=k))=true
 ·rw[if_pos e,if_pos e];exact r.Hg k ry
 ·rw[if_neg e,if_neg e];exact Paired.snoc r ⟨rfl,ry⟩
theorem KV.drop{aI:List (κ×V)}{vs:List (κ×Value)}(r:KV aI vs)(k:κ):KV (iP aI k) (without vs k):=by
 unfold KV at r⊢;unfold iP without
 induction r with
 |nil=>exact .nil
 | @cons p q ps qs h t ih=>
  obtain⟨h1,h2⟩:=h;rw[iz,iz];by_cases e:p.1=k
  ·have a:¬decide (p.1≠k)=true:=by simp[e]
   have b:¬decide (q.1≠k)=true:=by simp[h1.symm.trans e]
   rw[if_neg a,if_neg b];exact ih
  ·have e':¬q.1=k:=fun z=>e (h1.trans z);have a:decide (p.1≠k)=true:=by simp[e]
   have b:decide (q.1≠k)=true:=by simp[e']
   rw[if_pos a,if_pos b];exact .cons ⟨h1,h2⟩ ih
theorem KV.length{aI:List (κ×V)}{vs:List (κ×Value)}(r:KV aI vs):aI.length=vs.length:=Paired.length r
theorem ON(aI:List (κ×V))(k:κ):(iP aI k).length<=aI.length:=ir _ _
end
theorem rW{P:Program}{w:World}{k:Key}{u:Value}(r:RelV (kV k) u):(qZ P w).is k u=true:=by
 cases k with
 |inl i=>obtain⟨t,e⟩:=(show ∃t,u=Value.int i t from r);subst e;exact XX P w i t
 |inr x=>obtain⟨t,e⟩:=(show ∃t,u=Value.str x t from r);subst e;exact XY P w x t
theorem SO{P:Program}{w:World}:∀{ks:List Key}{us:List Value},bP (ks.map kV) us->ItemsAre (qZ P w) ks us
 |[],_,r=>by rw[lj]at r;cases r;exact .nil
 |k::ks,_,r=>by
  rw[aM]at r;cases r with
  |cons h t=>exact .cons (rW h) (SO t)
abbrev KT(H:Hp):List (List Key×V)->List (List Key×Addr×Value)->Prop:=Paired fun p q=>p.1=q.1/\H q.2.1=some (.tup (p.1.map kV))/\RelV p.2 q.2.2
theorem KT.val{H:Hp}{aI:List (List Key×V)}{xs:List (List Key×Addr×Value)}(r:KT H aI xs)(k:List Key):jn (fk aI k) ((atKey xs k).map (·.2)):=by
 induction r with
 |nil=>exact bB
 | @cons p q ps qs h t ih=>
  obtain⟨h1,_,h2⟩:=h;by_cases e:p.1=k
  ·have e':q.1=k:=h1.symm.trans e;have b:atKey (q::qs) k=some q.2:=by simp[atKey,bz,e']
   rw[Bb e,b];exact h2
  ·have e':¬q.1=k:=fun z=>e (h1.trans z);have b:atKey (q::qs) k=atKey qs k:=by simp[atKey,bz,e']
   rw[Ab e,b];exact ih
theorem KT.Hg{H:Hp}{aI:List (List Key×V)}{xs:List (List Key×Addr×Value)}(r:KT H aI xs)(k:List Key){y:V}{u:Value}(ry:RelV y u):
    KT H (aI.map fun kv=>if kv.1=k then(kv.1,y)else kv) (xs.map (putAt k u)):=by
  induction r with
  |nil=>exact .nil
  | @cons p q ps qs h t ih=>
    rw[aM,aM];refine .cons ?_ ih;obtain⟨h1,h2,h3⟩:=h;unfold putAt;by_cases e:p.1=k
    · rw[if_pos e,if_pos (h1.symm.trans e)];exact⟨h1,h2,ry⟩
    · rw[if_neg e,if_neg (fun z=>e (h1.trans z))];exact⟨h1,h2,h3⟩
theorem KT.put{H:Hp}{aI:List (List Key×V)}{xs:List (List Key×Addr×Value)}(r:KT H aI xs)(k:List Key){b:Addr}{y:V}{u:Value}(hb:H b=some (.tup (k.map kV)))(ry:RelV y u):
    KT H (gB aI k y) (storedH xs k b u):=by
  have e:(aI.any fun kv=>decide (kv.1=k))=(atKey xs k).isSome:=by rw[HC,(r.val k).jM,pL]
  unfold gB storedH;rw[e];by_cases q:(atKey xs k).isSome=true
  · rw[if_pos q,if_pos q];exact r.Hg k ry
  · rw[if_neg q,if_neg q];exact Paired.snoc r ⟨rfl,hb,ry⟩
theorem KT.keeps{H H':Hp}{aI:List (List Key×V)}{xs:List (List Key×Addr×Value)}(r:KT H aI xs)(ht:∀b ys,H b=some (.tup ys)->H' b=some (.tup ys)):KT H' aI xs:=
 Paired.yE r fun _ _ z=>⟨z.1,ht _ _ z.2.1,z.2.2⟩
section
variable{P:Program}{w:World}{H:Hp}{h:Heap}{a:Addr}
theorem Fx{u:HO}(ok:iY P w H h)(e:Rd H a u):eT P w H h a u:=e.ok ok
theorem uy{aI:List (Key×V)}(ok:iY P w H h)(e:Rd H a (.dK aI)):aI.length<=sizeLine/\(a ==sysModules)=false/\∃vs,KV aI vs/\h.DictOf (qZ P w) a vs:=
 show eT P w H h a (.dK aI)from Fx ok e
theorem zp{aI:List (Key×V)}(ok:iY P w H h)(e:H a=some (.dK aI)):aI.length<=sizeLine/\(a ==sysModules)=false/\∃vs,KV aI vs/\h.DictOf (qZ P w) a vs:=uy ok (.inl e)
theorem Le{ks:List Key}(ok:iY P w H h)(e:H a=some (.tup (ks.map kV))):(tupleKind (qZ P w)).is h ks a:=by obtain⟨_,dJ,r,o,h1,h2,n,h3⟩:=(show eT P w H h a (.tup (ks.map kV))from ok a _ e);exact⟨o,dJ.toArray,n,h1,h2,h3,by simpa using SO r⟩
theorem uz{aI:List (List Key×V)}(ok:iY P w H h)(e:Rd H a (.dT aI)):aI.length<=sizeLine/\(a ==sysModules)=false/\
    ∃xs,KT H aI xs/\h.DictOfH (tupleKind (qZ P w)) a xs:=by
  obtain⟨z,y,xs,r,o,es,ep,h1,h2,h3,h4,h5⟩:=(show eT P w H h a (.dT aI)from Fx ok e);refine⟨z,y,xs,r,o,es,ep,h1,h2,h3,h4,fun x hx=>?_,h5⟩;have all:∀{l:List (List Key×V)}{m:List (List Key×Addr×Value)},KT H l m->∀x∈m,(tupleKind (qZ P w)).is h x.1 x.2.1:=by
    intro l m q
    induction q with
    |nil=>intro x hx;exact nomatch hx
    | @cons p q ps qs hq t ih=>
      intro x hx;rcases ah.mp hx with e|hx
      · subst e;exact Le ok (by rw[<-hq.1];exact hq.2.1)
      · exact ih x hx
  exact all r x hx
theorem Jb{aI:List (List Key×V)}(ok:iY P w H h)(e:H a=some (.dT aI)):aI.length<=sizeLine/\(a ==sysModules)=false/\
    ∃xs,KT H aI xs/\h.DictOfH (tupleKind (qZ P w)) a xs:=uz ok (.inl e)
end
def kj(H:Hp)(a:Addr)(y:V)(r:Option V):Prop:=
 (∃aI k,Rd H a (.dK aI)/\y=kV k/\r=fk aI k)\/∃aI k b,Rd H a (.dT aI)/\y= .ref b/\H b=some (.tup (k.map kV))/\r=fk aI k
def rh(H:Hp)(a:Addr)(y v:V)(H':Hp):Prop:=
 (∃aI k,H a=some (.dK aI)/\y=kV k/\aI.length<sizeLine/\H'=aB H a (.dK (gB aI k v)))\/
 ∃aI k b,H a=some (.dT aI)/\y= .ref b/\H b=some (.tup (k.map kV))/\aI.length<sizeLine/\H'=aB H a (.dT (gB aI k v))
theorem kj.k{H:Hp}{a:Addr}{aI:List (Key×V)}{k:Key}(e:H a=some (.dK aI)):kj H a (kV k) (fk aI k):=.inl ⟨aI,k,.inl e,rfl,rfl⟩
theorem rh.k{H:Hp}{a:Addr}{aI:List (Key×V)}{k:Key}{v:V}(e:H a=some (.dK aI))(hl:aI.length<sizeLine):rh H a (kV k) v (aB H a (.dK (gB aI k v))):=.inl ⟨aI,k,e,rfl,hl,rfl⟩
section
variable{X:Cx}{ae:List (Addr×Obj)}{σ:St}{H:Hp}{s:Shared}{a:Addr}{y v:V}{u r:Value}{o:Option V}{A:Around}{E:Value->Shared->Prop}
theorem Inv.big(I:Inv X ae σ H s):sysModules<s.heap.objs.size:=by have h:mainGlobals<s.heap.objs.size:=(I.mod.glob.keeps I.bk).lt;exact Am (by decide) h
theorem YV{Q:Value->Shared->Prop}(hu:A.units+1<cLine)(I:Inv X ae σ H s)(g:kj H a y (some v))(ry:RelV y u)(h:∀w' s',Inv X ae σ H s'->RelV v w'->Q w' s'):
    wpAny (model X.prog X.w) A (getItem (.ref a) u) Q E s:=by
  rcases g with⟨aI,k,e,ey,l⟩ |⟨aI,k,b,e,ey,eb,l⟩
  · subst ey;obtain⟨z,hd,vs,jT,dd⟩:=uy I.cu e;obtain⟨w',hw,wg⟩:=jn.some_of (v:=v) (o:=valueAt vs k) (by rw[l];exact jT.val k);exact wpAny_getItem_of (rW ry) dd.mapOf hw (h w' _ (I.tok _) wg)
  · subst ey;cases(show u=Value.ref b from ry)
    obtain⟨z,hd,xs,jT,dd⟩:=uz I.cu e;obtain⟨w',hw,wg⟩:=jn.some_of (v:=v) (o:=(atKey xs k).map (·.2)) (by rw[l];exact jT.val k);obtain⟨p,hp,AD⟩:=xG.mp hw;refine wpAny_getItem_heap (tupleKind_room_in1 hu) (Le I.cu eb) dd hp ?_;rw[AD];exact h w' _ (I.tok _) wg
theorem MR{Q:Value->Shared->Prop}(hu:A.units+1<cLine)(I:Inv X ae σ H s)(g:kj H a y o)(ry:RelV y u)(h:∀s',Inv X ae σ H s'->Q (.bool o.isSome) s'):
    wpAny (model X.prog X.w) A (compareOp .In u (.ref a)) Q E s:=by
  rcases g with⟨aI,k,e,ey,l⟩ |⟨aI,k,b,e,ey,eb,l⟩
  · subst ey;obtain⟨z,hd,vs,jT,dd⟩:=uy I.cu e;refine wpAny_in_of (rW ry) hd dd.mapOf ?_;rw[<-(jT.val k).jM,<-l];exact h _ (I.tok _)
  · subst ey;cases(show u=Value.ref b from ry)
    obtain⟨z,hd,xs,jT,dd⟩:=uz I.cu e;refine wpAny_in_heap (tupleKind_room_in1 hu) (Le I.cu eb) hd dd ?_;have q:=(jT.val k).jM;rw[pL]at q;rw[<-q,<-l];exact h _ (I.tok _)
theorem zwy{Q:Value->Shared->Prop}(hu:A.units+1<cLine)(I:Inv X ae σ H s)(g:kj H a y o)(ry:RelV y u)(h:∀s',Inv X ae σ H s'->Q (.bool (!o.isSome)) s'):
    wpAny (model X.prog X.w) A (compareOp .NotIn u (.ref a)) Q E s:=by
  rcases g with⟨aI,k,e,ey,l⟩ |⟨aI,k,b,e,ey,eb,l⟩
  · subst ey;obtain⟨z,hd,vs,jT,dd⟩:=uy I.cu e;refine wpAny_notIn_of (rW ry) hd dd.mapOf ?_;rw[<-(jT.val k).jM,<-l];exact h _ (I.tok _)
  · subst ey;cases(show u=Value.ref b from ry)
    obtain⟨z,hd,xs,jT,dd⟩:=uz I.cu e;refine wpAny_notIn_heap (tupleKind_room_in1 hu) (Le I.cu eb) hd dd ?_;have q:=(jT.val k).jM;rw[pL]at q;rw[<-q,<-l];exact h _ (I.tok _)
theorem Mr{h':Heap}{t':Nat}{ob:HO}(I:Inv X ae σ H s)(mu:IP (H a))(hs:Heap.SameBut a s.heap h')(he:∃q,h'.get? a=some q)(new:eT X.prog X.w (aB H a ob) h' a ob):
    Inv X ae σ (aB H a ob) {s with heap:=h',toks:=t'}:=
  I.write (x:=a) (e:=a) mu (.inl rfl) (fun b q hb z=>(hs.2 b hb).trans z) he new
theorem Pe{P:Program}{w:World}{H':Hp}{h':Heap}{aI:List (Key×V)}{vs:List (Key×Value)}(z:aI.length<=sizeLine)(hd:(a ==sysModules)=false)(jT:KV aI vs)(dd:h'.DictOf (qZ P w) a vs):
    eT P w H' h' a (.dK aI):=⟨z,hd,vs,jT,dd⟩
theorem YW{H':Hp}{Q:Unit->Shared->Prop}(hu:A.units+1<cLine)(I:Inv X ae σ H s)(g:rh H a y v H')(ry:RelV y u)(rv:RelV v r)(h:∀s',Inv X ae σ H' s'->Q () s'):
    wpAny (model X.prog X.w) A (setItem (.ref a) u r) Q E s:=by
  rcases g with⟨aI,k,e,ey,l,eH⟩ |⟨aI,k,b,e,ey,eb,l,eH⟩
  · subst ey eH;obtain⟨z,hd,vs,jT,dd⟩:=zp I.cu e;have hz:vs.length<=sizeLine:=by rw[<-jT.length];exact z
    have hl:(gB aI k v).length<=sizeLine:=by have:=KU aI k v;omega
    refine wpAny_setItem_pairs (hsz:=hz) (rW ry) dd fun h' Du hs=>h _ ?_;have he:∃q,h'.get? a=some q:=let⟨q,_,_,hq,_⟩:=Du;⟨q,hq⟩;exact Mr I (by rw[e];exact bB) hs he (Pe hl hd (jT.put k rv) Du)
  · subst ey eH;cases(show u=Value.ref b from ry)
    obtain⟨z,hd,xs,jT,dd⟩:=Jb I.cu e;have hz:xs.length<=sizeLine:=by rw[<-Paired.length jT];exact z
    have hl:(gB aI k v).length<=sizeLine:=by have:=KU aI k v;omega
    refine wpAny_setItem_heap (hsz:=hz) (tupleKind_room_in1 hu) (Le I.cu eb) dd fun h' Du hs=>h _ ?_;obtain⟨q,es,ep,hq,h2,h3,h4,_,h5⟩:=Du;refine Mr I (by rw[e];exact bB) hs ⟨q,hq⟩ ⟨hl,hd,_,(jT.put k eb rv).keeps fun c ys ec=>?_,q,es,ep,hq,h2,h3,h4,h5⟩;rw[bw (bQ ec e (fun z=>nomatch z))];exact ec
end
section
variable{X:Cx}{ae:List (Addr×Obj)}{σ:St}{H:Hp}{s:Shared}{a:Addr}{aI:List (Key×V)}{k:Key}{u:Value}{A:Around}{E:Value->Shared->Prop}
theorem Ja{v:V}{kB:List Value}{Q:Value->Shared->Prop}(I:Inv X ae σ H s)(e:H a=some (.dK aI))(ry:RelV (kV k) u)(l:fk aI k=some v)(hm:kB=[]\/∃x,kB=[x])(h:∀w' s',Inv X ae σ (aB H a (.dK (iP aI k))) s'->RelV v w'->Q w' s'):wpAny (model X.prog X.w) A (call (.builtin "dict.pop") (.ref a::u::kB)) Q E s:=by
  obtain⟨z,hd,vs,jT,dd⟩:=zp I.cu e;obtain⟨w',hw,wg⟩:=jn.some_of (v:=v) (o:=valueAt vs k) (by rw[<-l];exact jT.val k);have hp:(keyPart u).isSome=true:=by
    cases k with
    |inl i=>obtain⟨t,q⟩:=(show ∃t,u=Value.int i t from ry);subst q;rfl
    |inr x=>obtain⟨t,q⟩:=(show ∃t,u=Value.str x t from ry);subst q;rfl
  have ha:argsOk "dict.pop" ⟨.ref a::u::kB,[]⟩:=by
    rcases hm with q|⟨x,q⟩
    · subst q;exact PySem.F.args_dict_pop_2 _ _
    · subst q;exact PySem.F.args_dict_pop_3 _ _ _
  refine call_meetsIn xK dd.typeIs PySem.F.entry_dict_pop ha (meets_dict_pop_there (qZ X.prog X.w) a (rW ry) kB hm hp)
    ⟨vs,w',dd,by rw[<-jT.length];exact z,hw,fun h' Du hs=>h w' _ ?_ wg⟩;have he:∃q,h'.get? a=some q:=let⟨q,_,_,hq,_⟩:=Du;⟨q,hq⟩;exact Mr I (by rw[e];exact bB) hs he (Pe (bf (ON aI k) z) hd (jT.drop k) Du)
end
def IQ(i:Expr):Prop:=∀ov iv,subscripted i false ov iv=operate [ov,iv] (getItem ov iv)
theorem zwz{prog:Program}{w:World}{A:Around}{E:Value->Shared->Prop}{s:Shared}{env:Env}{value slice:Expr}{pos:Pos}{T id:String}{Q:Value->Shared->Prop}(hl:typeLookup (.type T) "__getitem__"=pure (some (.builtin id)))(hs:IQ slice)(h:wpAny (model prog w) A (eval value env) (fun o s₁=>wpAny (model prog w) A (eval slice env) (fun i s₂=>s₂.TypeIs o T/\wpAny (model prog w) A (getItem o i) Q E s₂) E s₁) E s):
    wpAny (model prog w) A (eval (.Subscript value slice pos) env) Q E s:=by
  refine Subscript_ (wpAny_mono h (fun o s₁ h₁=>wpAny_mono h₁ (fun i s₂ h₂=>?_) fun _ _ x=>x) fun _ _ x=>x);obtain⟨hT,h₂⟩:=h₂;unfold subscriptTail;refine wpAny_bind ?_;rw[getitemInPython_of_ne hT.not_modules];refine wpAny_bind (wpAny_specialOf hT hl ?_);have gM:wpAny (model prog w) A (subscripted slice false o i) (fun r s₃=>wpAny (model prog w) A (letTemporaryGo value o r >>=fun _=>pure r) Q E s₃) E s₂:=by rw[hs o i];exact wpAny_operating (wpAny_mono h₂ (fun r s₃ h₃=>wpAny_bind (wpAny_letTemporaryGo (wpAny_pure h₃))) fun _ _ x=>x)
  first
    |exact wpAny_pure (wpAny_bind gM)
    |exact wpAny_bind (wpAny_pure (wpAny_bind gM))
    |exact wpAny_bind gM
theorem X4{X:Cx}{ae:List (Addr×Obj)}{σ:St}{H:Hp}{s:Shared}{a:Addr}{y:V}{o:Option V}(I:Inv X ae σ H s)(g:kj H a y o):s.TypeIs (.ref a) "dict":=by
 rcases g with⟨aI,k,e,_,_⟩ |⟨aI,k,b,e,_,_,_⟩
 ·obtain⟨_,_,vs,_,dd⟩:=uy I.cu e;exact dd.typeIs
 ·obtain⟨_,_,xs,_,dd⟩:=uz I.cu e;exact dd.typeIs
def zZ(td ty:TE):TE:=fun σ H Q=>td σ H fun x H1=>ty σ H1 fun y H2=>∃a v,x= .ref a/\kj H2 a y (some v)/\Q v H2
def EF(ty td:TE):TE:=fun σ H Q=>ty σ H fun y H1=>td σ H1 fun x H2=>∃a o,x= .ref a/\kj H2 a y o/\Q (.bl o.isSome) H2
def qX(ty td:TE):TE:=fun σ H Q=>ty σ H fun y H1=>td σ H1 fun x H2=>∃a o,x= .ref a/\kj H2 a y o/\Q (.bl (!o.isSome)) H2
def zK(td ty tv:TE):TS:=fun D σ H=>tv σ H fun v H1=>td σ H1 fun x H2=>ty σ H2 fun y H3=>∃a H4,x= .ref a/\rh H3 a y v H4/\D.nx σ H4
section
variable{X:Cx}{o i e value:Expr}{pos nY y9:Pos}{td ty tv:TE}
theorem HD(hu:X.A.units+1<cLine)(ho:PE X o td)(hi:PE X i ty)(hs:IQ i):PE X (.Subscript o i pos) (zZ td ty):=by intro ae s σ H Q I h;refine zwz PySem.F.slot_dict_getitem.lookup hs (d7 (ho ae s σ H _ I h) fun u s1⟨x,H1,I1,rx,q1⟩=>d7 (hi ae s1 σ H1 _ I1 q1) fun iv s2⟨y,H2,I2,ry,a,v,ex,g,q2⟩=>?_);subst ex;obtain rfl:u=Value.ref a:=rx;exact⟨X4 I2 g,YV hu I2 g ry fun w' s3 I3 wg=>⟨v,H2,I3,wg,q2⟩⟩
theorem UA(hu:X.A.units+1<cLine)(hi:PE X i ty)(ho:PE X o td):PC X .In i o (EF ty td):=by intro ae s σ H Q I h;refine d7 (hi ae s σ H _ I h) fun iv s1⟨y,H1,I1,ry,q1⟩=>d7 (ho ae s1 σ H1 _ I1 q1) fun u s2⟨x,H2,I2,rx,a,ov,ex,g,q2⟩=>?_;subst ex;obtain rfl:u=Value.ref a:=rx;exact MR hu I2 g ry fun s3 I3=>⟨.bl ov.isSome,H2,I3,rfl,q2⟩
theorem OF(hu:X.A.units+1<cLine)(hi:PE X i ty)(ho:PE X o td):PC X .NotIn i o (qX ty td):=by intro ae s σ H Q I h;refine d7 (hi ae s σ H _ I h) fun iv s1⟨y,H1,I1,ry,q1⟩=>d7 (ho ae s1 σ H1 _ I1 q1) fun u s2⟨x,H2,I2,rx,a,ov,ex,g,q2⟩=>?_;subst ex;obtain rfl:u=Value.ref a:=rx;exact zwy hu I2 g ry fun s3 I3=>⟨.bl (!ov.isSome),H2,I3,rfl,q2⟩
theorem IC(hu:X.A.units+1<cLine)(ho:PE X o td)(hi:PE X i ty)(hv:PE X value tv)(hs:swapsWith value (some (.Subscript o i nY)) pos.line X.env=pure false):
    PS X (.Assign [.Subscript o i nY] value pos) (zK td ty tv):=by
  intro ae s σ H D I h;refine wpAny_Assign_Subscript (d7 (hv ae s σ H _ I h) fun r s1⟨v,H1,I1,rv,q1⟩=>d7 (ho ae s1 σ H1 _ I1 q1) fun u s2⟨x,H2,I2,rx,q2⟩=>d7 (hi ae s2 σ H2 _ I2 q2) fun iv s3⟨y,H3,I3,ry,a,H4,ex,g,q3⟩=>?_) hs;subst ex;obtain rfl:u=Value.ref a:=rx;exact YW hu I3 g ry rv fun s4 I4=>⟨σ,H4,I4,q3⟩
end
theorem To{P:Program}{w:World}{H:Hp}(h:Heap)(hb:sysModules<h.objs.size):eT P w H (h.push {cls:=.type "dict",data:=.dict #[]}) h.objs.size (.dK []):=
 ⟨di _,beq_eq_false_iff_ne.mpr (bV (aJ hb)),[],.nil,Heap.DictOf.new h⟩
def vP:TE:=fun _ H Q=>∀p,H p=none->Q (.ref p) (aB H p (.dK []))
section
variable{X:Cx}{pos:Pos}
theorem Mf:PE X (.Dict [] [] pos) vP:=fun ae s σ H Q I h=>
 wpAny_Dict_empty ⟨.ref s.heap.objs.size,_,I.laid (a:=s.heap.objs.size) (o:=.dK []) (t':=s.toks) (fun _ _ q=>Heap.get?_push_of_some _ q) (ao _) (To s.heap I.big),rfl,h _ (I.cu.fresh (ao _))⟩
end
def Lf:List (TE×TE)->St->Hp->(List (V×V)->Hp->Prop)->Prop
 |[],_,H,Q=>Q [] H
 |(tk,tv)::r,σ,H,Q=>tk σ H fun x H1=>tv σ H1 fun y H2=>Lf r σ H2 fun ps H3=>Q ((x,y)::ps) H3
abbrev VV:List (V×V)->List (Value×Value)->Prop:=Paired fun p q=>RelV p.1 q.1/\RelV p.2 q.2
def Lh(X:Cx)(pos:Pos)(wP:List (Option Expr))(tD:List Expr)(EM:List (TE×TE)):Prop:=
 ∀(ae:List (Addr×Obj))(s:Shared)(σ:St)(H:Hp)(Q:List (V×V)->Hp->Prop),Inv X ae σ H s->Lf EM σ H Q->
  wpAny (model X.prog X.w) X.A (evalPairs (pairTrees wP tD X.env pos)) (fun vs s'=>∃ps H',Inv X ae σ H' s'/\VV ps vs/\Q ps H') X.xe s
theorem zxa{X:Cx}{pos:Pos}:Lh X pos [] [] []:=fun ae s σ H Q I h=>pairTrees_nil_walk ⟨[],H,I,.nil,h⟩
theorem ZA{X:Cx}{pos:Pos}{k v:Expr}{ks:List (Option Expr)}{vs:List Expr}{tk tv:TE}{EM:List (TE×TE)}(hk:PE X k tk)(hv:PE X v tv)(hr:Lh X pos ks vs EM):
    Lh X pos (some k::ks) (v::vs) ((tk,tv)::EM):=fun ae s σ H Q I h=>
  pairTrees_cons_walk (d7 (hk ae s σ H _ I h) fun u s1⟨x,H1,I1,rx,q1⟩=>d7 (hv ae s1 σ H1 _ I1 q1) fun w2 s2⟨y,H2,I2,ry,q2⟩=>
    d7 (hr ae s2 σ H2 _ I2 q2) fun ws s3⟨ps,H3,I3,jT,q3⟩=>⟨(x,y)::ps,H3,I3,.cons ⟨rx,ry⟩ jT,q3⟩)
def DL(aI kB:List (Key×V)):List (Key×V):=kB.foldl (fun BS kv=>gB BS kv.1 kv.2) aI
theorem KV.merge:∀{kB:List (Key×V)}{rs:List (Key×Value)}{aI:List (Key×V)}{vs:List (Key×Value)},KV kB rs->KV aI vs->KV (DL aI kB) (merged vs rs):=by
 intro kB rs aI vs r;unfold KV at r
 induction r generalizing aI vs with
 |nil=>intro q;exact q
 | @cons p q ps qs h t ih=>
  intro r0;have e:KV (gB aI p.1 p.2) (stored vs q.1 q.2):=by have:=r0.put p.1 h.2;rw[<-h.1];exact this
  exact ih e
theorem Rt:∀(kB aI:List (Key×V)),(DL aI kB).length<=aI.length+kB.length
 |[],aI=>by show aI.length<=aI.length+0;omega
 |p::r,aI=>by have h1:=Rt r (gB aI p.1 p.2);have h2:=KU aI p.1 p.2;show(DL (gB aI p.1 p.2) r).length<=_;rw[bG];omega
theorem Sh{P:Program}{w:World}:∀{aI:List (Key×V)}{ws:List (Value×Value)},VV (aI.map fun kv=>(kV kv.1,kv.2)) ws->∃rs,Carries (qZ P w) ws rs/\KV aI rs
 |[],_,r=>by rw[lj]at r;cases r;exact⟨[],bB,.nil⟩
 |p::aI,_,r=>by
  rw[aM]at r;cases r with
  | @cons a b as bs h t=>
   obtain⟨rs,c,q⟩:=Sh (P:=P) (w:=w) t;obtain⟨b1,b2⟩:=b;exact⟨(p.1,b2)::rs,⟨rW h.1,rfl,c⟩,.cons ⟨rfl,h.2⟩ q⟩
def FQ(EM:List (TE×TE)):TE:=fun σ H Q=>∀p,H p=none->Lf EM σ (aB H p (.dK [])) fun ps H2=>H2 p=some (.dK [])/\∃aI:List (Key×V),ps=aI.map (fun kv=>(kV kv.1,kv.2))/\aI.length<=15/\Q (.ref p) (aB H2 p (.dK (DL [] aI)))
theorem zxb{X:Cx}{pos:Pos}{wP:List (Option Expr)}{tD:List Expr}{EM:List (TE×TE)}(h:Lh X pos wP tD EM)(rT:wP.all (·.isSome)=true)(hl:wP.length=tD.length)(h0:wP≠[])(Vq:wP.length<=15):PE X (.Dict wP tD pos) (FQ EM):=by
  intro ae s σ H Q I q;have hn:=I.cu.fresh (ao s.heap.objs.size);have I1:=I.laid (a:=s.heap.objs.size) (o:=.dK []) (h':=s.heap.push {cls:=.type "dict",data:=.dict #[]}) (t':=s.toks) (fun _ _ q=>Heap.get?_push_of_some _ q) (ao _) (To s.heap I.big);refine wpAny_Dict_walk (knd:=qZ X.prog X.w) rT hl h0 Vq (d7 (h ae _ σ _ _ I1 (q _ hn)) fun ws s2⟨ps,H2,I2,jT,e,aI,ep,lk,q2⟩=>?_);subst ep;obtain⟨rs,c,rk⟩:=Sh (P:=X.prog) (w:=X.w) jT;obtain⟨z,hd,vs0,r0,dd⟩:=zp I2.cu e;cases r0
  refine⟨rs,c,dd,fun h' Du hs=>⟨.ref s.heap.objs.size,_,?_,rfl,q2⟩⟩;have hz:(DL [] aI).length<=sizeLine:=by have h1:=Rt aI [];rw[aU]at h1;rw[sizeLine_eq];omega
  have he:∃q,h'.get? s.heap.objs.size=some q:=let⟨q,_,_,hq,_⟩:=Du;⟨q,hq⟩;exact Mr I2 (by rw[e];exact bB) hs he (Pe hz hd (rk.merge .nil) Du)
structure M1(X:Cx)(o:Expr)(m:Str)(fP:Pos)(e:Expr)(fQ:Pos):Prop where
 base:attributeBase o m X.env (eval o X.env)=eval o X.env
 Vj:((backTo fQ (starEach [e] X.env)).all (fun x=>!x.1) && (backToKw fQ (keywordEach [] X.env)).all (fun x=>x.1.isSome)
  && decide (([e]:List Expr).length+([]:List Keyword).length+(if([]:List Keyword).isEmpty then 0 else 1)<30))=true
 line:(fP.endLine ==fQ.line)=true
 trees:backTo fQ (starEach [e] X.env)=[(false,eval e X.env)]
def IL(H:Hp)(a:Addr):Prop:=(∃aI,Rd H a (.dK aI))\/∃aI,Rd H a (.dT aI)
theorem UB{X:Cx}{ae:List (Addr×Obj)}{σ:St}{H:Hp}{s:Shared}{a:Addr}(I:Inv X ae σ H s)(d:IL H a):
    s.TypeIs (.ref a) "dict"/\(∀b,Value.ref a= .ref b->∃ob,s.heap.get? b=some ob/\ob.dict=none)/\(a ==sysModules)=false:=by
  rcases d with⟨aI,e⟩ |⟨aI,e⟩
  · obtain⟨_,hd,vs,_,dd⟩:=uy I.cu e;refine⟨dd.typeIs,fun b q=>?_,hd⟩;cases q
    obtain⟨ob,_,_,h1,h2,_⟩:=dd;exact⟨ob,h1,h2.2.1⟩
  · obtain⟨_,hd,xs,_,dd⟩:=uz I.cu e;refine⟨dd.typeIs,fun b q=>?_,hd⟩;cases q
    obtain⟨ob,_,_,h1,h2,_⟩:=dd;exact⟨ob,h1,h2.2.1⟩
section
variable{X:Cx}{ae:List (Addr×Obj)}{σ:St}{H:Hp}{s:Shared}{a:Addr}{y d:V}{u r:Value}{o:Option V}{A:Around}{E:Value->Shared->Prop}
end
def yY(td ty:TE):TE:=fun σ H Q=>td σ H fun x H1=>∃a,x= .ref a/\IL H1 a/\ty σ H1 fun y H2=>∃o,kj H2 a y o/\Q (o.getD .non) H2
def yZ(td ty tx:TE):TE:=fun σ H Q=>td σ H fun x H1=>∃a,x= .ref a/\IL H1 a/\ty σ H1 fun y H2=>tx σ H2 fun z H3=>∃o,kj H3 a y o/\Q (o.getD z) H3
def C9(td ty:TE):TE:=fun σ H Q=>td σ H fun x H1=>∃a,x= .ref a/\IL H1 a/\ty σ H1 fun y H2=>∃aI k v,H2 a=some (.dK aI)/\y=kV k/\fk aI k=some v/\Q v (aB H2 a (.dK (iP aI k)))
section
variable{X:Cx}{o e f:Expr}{fP fQ:Pos}{td ty tx:TE}
theorem OO(ho:PE X o td)(he:PE X e ty)(m:M1 X o "pop" fP e fQ):PE X (.Call (.Attribute o "pop" fP) [e] [] fQ) (C9 td ty):=by intro ae s σ H Q I h;refine wpAny_Call_method m.base m.Vj m.line v5 xK PySem.F.type_dict_pop (d7 (ho ae s σ H _ I h) fun u s1⟨x,H1,I1,rx,a,ex,d,q1⟩=>?_);subst ex;obtain rfl:u=Value.ref a:=rx;obtain⟨t1,t2,_⟩:=UB I1 d;refine⟨t1,t2,?_⟩;rw[m.trees];refine Calls.callWith_builtin rfl (Calls.evalArgs_plain (Calls.spliced_cons (d7 (he ae s1 σ H1 _ I1 q1) fun iv s2⟨y,H2,I2,ry,aI,k,v,ea,ey,l,q2⟩=>Calls.spliced_nil ?_)));subst ey;exact Ja I2 ea ry l (.inl rfl) fun w' s3 I3 wg=>⟨v,_,I3,wg,q2⟩
end
section
variable{X:Cx}{ae:List (Addr×Obj)}{σ:St}{H:Hp}{s:Shared}{a:Addr}{aI:List (Key×V)}{A:Around}{E:Value->Shared->Prop}
end
section
variable{X:Cx}{ae:List (Addr×Obj)}{σ:St}{H:Hp}{s:Shared}{a:Addr}{y:V}{u:Value}{A:Around}{E:Value->Shared->Prop}
end
section
variable{X:Cx}
end
section
variable{κ:Type}[DecidableEq κ]
end
def EI(K:aa)(ta:TE):TT:=fun σ H Q=>ta σ H fun x H1=>∃k,D6 K x H1 k/\Q k H1
theorem SQ{X:Cx}(K:aa)(h:X.K=K){a:Expr}{ta:TE}(ha:PE X a ta)(he:∀mq,isTrue a X.env mq=(do let v <-mq;standAt a.pos;holding [v] (truthy v)):=by intro _;rfl):PT X a (EI K ta):=h▸Ze ha he
theorem Om{K:aa}{H:Hp}{p:Addr}{xs:List V}(h:iO K H p xs):D6 K (.ref p) H (!xs.isEmpty):=.inl ⟨xs,h,rfl⟩
end L2
namespace Sw
abbrev T3:=Rat×Rat×Int
def JC(m:Rat)(u:T3):Bool:=!decide (m<u.1) && decide (m<u.2.1)
def Vx(us:List T3)(m:Rat):List T3:=us.filter (JC m)
def Et:List Rat->Rat
 |[]=>0
 |q::r=>(q::r).foldl min q
def MA(D:Int)(q:Rat):Prop:=∃n:Int,q=(n:Rat) / (D:Rat)
end Sw
namespace L2
open PySem PySem.Spec PyProof.Rows
theorem T4{c:TT}{tb:TS}{D:Ends}{σ:St}{H:Hp}(W:Nat->St->Hp->Prop){m0:Nat}(h0:W m0 σ H)(hs:∀m σ H,W m σ H->∃b:Bool,(∀Q:Bool->Hp->Prop,Q b H->c σ H Q)/\(b=true->tb {D with nx:=fun σ' H'=>∃m',m' < m/\W m' σ' H',ct:=fun σ' H'=>∃m',m' < m/\W m' σ' H',bk:=D.nx} σ H)/\(b=false->D.nx σ H)):Pa c tb D σ H:=by
  refine⟨W,⟨_,h0⟩,fun m σ H p=>?_⟩;obtain⟨b,hc,h1,h2⟩:=hs m σ H p;refine hc _ ?_;cases b with
  |true=>exact⟨_,fun σ' H' z=>z,h1 rfl⟩
  |false=>exact h2 rfl
theorem Oz{α β:Type}{F:α->β->Prop}:∀{l₁:List α}{l₂:List β}{i:Nat}{a:α},Paired F l₁ l₂->l₁[i]?=some a->∃b,l₂[i]?=some b/\F a b
 |_,_,_,_,Paired.nil,e=>by simp at e
 |_,_,0,_,Paired.cons x _,e=>by simp at e;subst e;exact⟨_,rfl,x⟩
 |_,_,i+1,_,Paired.cons _ y,e=>by obtain⟨b,h1,h2⟩:=Oz (i:=i) y (by simpa using e);exact⟨b,by simpa using h1,h2⟩
theorem Ou{α:Type}{l:List α}{i:Nat}{x:α}(h:l[i]?=some x):l.take (i+1)=l.take i++[x]:=by rw[DY,h];rfl
end L2
namespace Sw
open L2
end Sw
namespace L2
open PySem PySem.Spec PyProof.Rows
def MB (K:aa) (a:Addr):It :=
  ⟨fun i H=>∃ xs x,iO K H a xs/\xs[i]? = some x,
   fun i H y H'=>∃ p x,y = .ref p/\H p=none/\(∀ xs,iO K H a xs->xs[i]? = some x)/\H'=aB H p (.tup [.int ((i+1:Nat):Int),x]),
   fun i H=>∃ xs,iO K H a xs/\xs.length=i⟩
section
variable{X:Cx}
def yu(K:aa)(ta:TA):TI:=fun σ H R=>ta σ H fun vs H1=>∃a,vs=[.ref a]/\(∃xs,iO K H1 a xs)/\R (MB K a) H1
end
section
variable{X:Cx}
def UV(K:aa)(a:Addr)(xs:List V):It:=
 ⟨fun i H=>iO K H a xs/\i<xs.length,fun i H x H'=>H'=H/\xs.reverse[i]?=some x,fun i H=>iO K H a xs/\xs.length=i⟩
def GO(K:aa)(ta:TA):TI:=fun σ H R=>ta σ H fun vs H1=>∃a xs,vs=[.ref a]/\iO K H1 a xs/\R (UV K a xs) H1
end
end L2
namespace L2
end L2
namespace L2
open PySem PySem.Spec PyProof.Rows
def UN(H:Hp)(a:Addr)(y d:V)(v:V)(H':Hp):Prop:=∃aI k,H a=some (.dK aI)/\y=kV k/\aI.length<sizeLine/\((fk aI k=some v/\H'=H)\/(fk aI k=none/\v=d/\H'=aB H a (.dK (gB aI k d))))
section
variable{X:Cx}{ae:List (Addr×Obj)}{σ:St}{H H':Hp}{s:Shared}{a:Addr}{y d v:V}{u r:Value}{A:Around}{E:Value->Shared->Prop}
end
def Ht(td ty tx:TE):TE:=fun σ H Q=>td σ H fun x H1=>∃a,x= .ref a/\IL H1 a/\ty σ H1 fun y H2=>tx σ H2 fun z H3=>∃v H4,UN H3 a y z v H4/\Q v H4
section
variable{X:Cx}{o e f:Expr}{td ty tx:TE}{fP fQ:Pos}
end
end L2
namespace Sw
open L2
def ov(low high:Rat)(u:T3):Rat:=if u.2.1<=low then 0 else if high<=u.1 then 0 else(if u.2.1<=high then u.2.1 else high)-(if low<=u.1 then u.1 else low)
end Sw
namespace Sw
open L2
end Sw
namespace Sw
open L2
end Sw
namespace L2
open PySem PySem.Spec PyProof.Rows
section
variable{X:Cx}
end
abbrev D2:=Int×Int
def d2(g:D2):List V:=[.int g.1,.int g.2]
abbrev DP(H:Hp):List Addr->List D2->Prop:=Paired fun p g=>H p=some (.tup (d2 g))
theorem DP.keep{H H':Hp}{ps:List Addr}{gs:List D2}(h:DP H ps gs)(e:∀p xs,H p=some (.tup xs)->H' p=some (.tup xs)):DP H' ps gs:=Paired.yE h fun _ _ q=>e _ _ q
structure UO(H:Hp)(l:Addr)(ps:List Addr)(gs:List D2):Prop where
 hl:H l=some (.lst (ps.map V.ref))
 r:DP H ps gs
end L2
namespace Sw
open L2
end Sw
namespace L2
open PySem PySem.Spec PyProof.Rows
section
variable{X:Cx}
end
theorem JE{P:Program}{w:World}{k:Key}{u:Value}(h:(qZ P w).is k u=true):RelV (kV k) u:=by
 rcases DG h with⟨i,t,rfl,rfl⟩ |⟨x,t,rfl,rfl⟩
 ·exact⟨t,rfl⟩
 ·exact⟨t,rfl⟩
section
variable{X:Cx}
end
section
variable{X:Cx}{ae:List (Addr×Obj)}{σ:St}{H:Hp}{s:Shared}{a:Addr}{aI:List (Key×V)}{o:Obj}
theorem Inv.frozen(I:Inv X ae σ H s)(h:H a=some (.dK aI))(ho:s.heap.get? a=some o):Inv X ae σ (aB H a (.frz o (.dK aI))) s:=by
 have ne:∀b,H b=none->b≠a:=fun b n z=>by rw[z,h]at n;cases n
 have nt:∀b u,H b=some u->(∀k,u≠.dK k)->b≠a:=fun b u e n z=>by rw[z,h]at e;cases e;exact n _ rfl
 have up:∀b u,H b=some u->(∀k,u≠.dK k)->aB H a (.frz o (.dK aI)) b=some u:=fun b u e n=>by rw[bw (nt b u e n)];exact e
 have cu:iY X.prog X.w (aB H a (.frz o (.dK aI))) s.heap:=fun b ob e=>by
  by_cases hb:b=a
  ·subst hb;rw[bh]at e;cases e
   exact⟨ho,(I.cu b _ h).gm (fun _ _ _ q=>q) (fun c q=>up c _ q (by intro k z;cases z)) fun c xs q=>up c _ q (by intro k z;cases z)⟩
  ·rw[bw hb]at e;exact(I.cu b _ e).gm (fun _ _ _ q=>q) (fun c q=>up c _ q (by intro k z;cases z)) fun c xs q=>up c _ q (by intro k z;cases z)
 exact I.step (g':=s.gens) (d':=s.drawn) (t':=s.toks) (ch:=[]) (fun _ z=>nomatch z) (fun b o' _ _ _ e _=>e) (fun b o' _ _ _ e _=>⟨o'.slots,e⟩) (fun b o' _ _ n=>by rw[bw (ne b n)];exact n) (fun b o' _ e=>⟨o',e⟩)
  (fun b xs q=>up b _ q (by intro k z;cases z)) (fun b o' u q=>up b _ q (by intro k z;cases z)) (fun b ps q=>⟨#[],by rw[up b _ q (by intro k z;cases z)];simp⟩) (fun m q=>q) cu I.bare
theorem Inv.Hz(I:Inv X ae σ H s)(h:H a=some (.frz o (.dK aI)))(n0:∀o u,X.H₀ a≠some (.frz o u)):Inv X ae σ (aB H a (.dK aI)) s:=by
 have ne:∀b,H b=none->b≠a:=fun b n z=>by rw[z,h]at n;cases n
 have un:∀b,H b=none->aB H a (.dK aI) b=none:=fun b n=>by rw[bw (ne b n)];exact n
 have nt:∀b u,H b=some u->(∀k v,u≠.frz k v)->aB H a (.dK aI) b=some u:=fun b u e n=>by
  have:b≠a:=fun z=>by rw[z,h]at e;cases e;exact n _ _ rfl
  rw[bw this];exact e
 have cu:iY X.prog X.w (aB H a (.dK aI)) s.heap:=fun b ob e=>by
  by_cases hb:b=a
  ·subst hb;rw[bh]at e;cases e
   exact(I.cu b _ h).2.gm (fun _ _ _ q=>q) (fun c q=>nt c _ q (by intro k v z;cases z)) fun c xs q=>nt c _ q (by intro k v z;cases z)
  ·rw[bw hb]at e;exact(I.cu b _ e).gm (fun _ _ _ q=>q) (fun c q=>nt c _ q (by intro k v z;cases z)) fun c xs q=>nt c _ q (by intro k v z;cases z)
 refine⟨I.ok,I.os,I.bare,⟨I.base.keep,I.base.slot,fun b o' e n hx=>un b (I.base.free b o' e n hx),I.base.there,fun b xs q=>nt b _ (I.base.oz b xs q) (by intro k v z;cases z),fun b o' u q=>?_,fun b ps q=>?_⟩,I.loc,I.cell,un _ I.free,fun x c e=>un _ (I.ia x c e),fun p hp=>?_,cu,I.len⟩
 ·have hb:b≠a:=fun z=>n0 o' u (by rw[<-z];exact q);rw[bw hb];exact I.base.lT b o' u q
 ·obtain⟨m,e⟩:=I.base.ou b ps q;exact⟨m,nt b _ e (by intro k v z;cases z)⟩
 ·obtain⟨e,n,r⟩:=I.pin p hp;exact⟨e,un _ n,r⟩
end
section
variable{X:Cx}{tg:Expr}
end
structure ET(K:aa)(C:Addr)(m:Str)(f:Addr):Prop where
 mc:∃mc,Dr K C mc=true/\Dn K (.ref C) mc m=some (.val (.ref f))
 ga:gI K (.ref C) "__getattribute__"=some (some (.builtin "type.__getattribute__"))
 kp:ay K (.ref f)=true
structure BR(K:aa)(C:Addr)(m bF:Str)(st:Stmt)(ps:List Str):Prop where
 ex:∃(f:Addr)(fd:FuncData),DR K m bF st f fd/\ET K C m f/\jk K fd ps []
structure Ln(P:Program)(w:World)(K:aa)(mg:Str->Option Value)(base:Heap)(CX:mZ)(k:Nat)(C:Addr)(m:Str)(ps:List Str)(sp:Sp):Prop where
 ex:∃(f:Addr)(fd:FuncData),nh P w K mg base CX k f fd ps sp/\ET K C m f/\jk K fd ps []
section
variable{P:Program}{w:World}{K:aa}{mg:Str->Option Value}{base:Heap}{CX:mZ}{C:Addr}{m bF:Str}{st:Stmt}{N ps:List Str}{k:Nat}{sp:Sp}
theorem BR.okN(F:BR K C m bF st ps)(S:au N ps (b8 st))(len:∀vs H Q E,sp vs H Q E->vs.length=ps.length)(fR:∀(f:Addr)(bL:Value)(A:Around)(outer:List Env)(s:Shared)(H:Hp)(vs:List V)(Q:VK)(E:XK),e9 k (A.deeper (envOfC bF (b8 st) s.heap.objs.size f bL))->sp vs H Q E->
      ∃t,qU (ku CX P w K mg base N bF (b8 st) f bL A outer s H E).xR (lY st) t/\t {nx:=fun _ H'=>Q .non H',rt:=Q} (start N vs) H):Ln P w K mg base CX (k+1) C m ps sp:=by
  obtain⟨f,fd,F,me,b⟩:=F.ex;obtain⟨oc,od,dV,kV,kK,pm,an,bL,ct,nX,rfl,lk,lB⟩:=F.ex;exact⟨f,_,nG lk lB S len fun A outer s H vs Q E hr m8=>by obtain⟨t,h,q⟩:=fR f bL A outer s H vs Q E hr m8;exact⟨t,h.xR,q⟩,me,b⟩
end
def FP(sp:Sp)(Ek:XH)(t:TA):TE:=fun σ H Q=>t σ H fun vs H1=>sp vs H1 Q (fun v d H'=>Ek v d σ H')
section
variable{X:Cx}{CX:mZ}{k:Nat}{C:Addr}{ps:List Str}{sp:Sp}{Ek:XH}{x m:Str}{p pos fP:Pos}{e:Expr}{es:List Expr}{t:TA}
theorem T5{pl:Sem Bool}(D:Ln X.prog X.w X.K X.mg X.base CX k C m ps sp)(hr:e9 k X.A)(hx:BB CX X Ek)(hg:Gl X x)(hm:X.mg x=some (.ref C))(ha:PA X (e::es) t)(vn:(x ==("__debug__":Str))=false:=by decide)(Bq:starEach (e::es) X.env=(false,eval e X.env)::starEach es X.env:=by rfl)(uE:(backTo pos (starEach es X.env)).any (·.1)=false:=by rfl)(ht:eval (.Call (.Attribute (.Name x p) m fP) (e::es) [] pos) X.env=(do
      let ov <-eval (.Name x p) X.env
      standAt fP.atName
      let(f,first) <-holding [ov] (getMethod ov m pl)
      callWith pos f first (backTo pos (starEach (e::es) X.env)) (backToKw pos (keywordEach [] X.env))):=by rfl):
    PE X (.Call (.Attribute (.Name x p) m fP) (e::es) [] pos) (FP sp Ek t):=by
  obtain⟨f,fd,F,cf,hb⟩:=D.ex;obtain⟨mc,h1,h2⟩:=cf.mc;intro ae s σ H Q I h;refine kJ (pl:=pl) (EO I hg hm ?_ vn) ht;refine PySem.W.method_cls I.l7 cf.ga (PySem.W.cls_value I.l7 h1 h2 rfl ?_);have I1:=I.tok (s.toks+1);refine eB (first:=[]) (h₀:=X.base) I.ok.mod.Bu cf.kp (d7 (ha pos ae _ σ H _ I1 h) fun us s2⟨vs,H2,I2,r,q2⟩=>⟨I2.l7,?_⟩) Bq uE;exact O6 (dX:=[]) F hr hb hx I2 r (by rw[aN];exact q2)
end
section
variable{X:Cx}
theorem SR(K:aa)(h:X.K=K):l0 X (compareOp .NotIn) (QE K true):=h▸XG
end
abbrev Nm:=List (Str×Int)
def kvsOf(nm:Nm):List (Key×V):=nm.map fun x=>((aH x.1:Key),V.int x.2)
def dw(nm:Nm)(x:Str):Option Int:=(nm.find? fun p=>decide (p.1=x)).map (·.2)
def putN(nm:Nm)(x:Str)(s:Int):Nm:=nm.map fun p=>if p.1=x then(p.1,s)else p
def rR(nm:Nm)(x:Str):Nm:=nm.filter fun p=>decide (p.1≠x)
theorem OG(nm:Nm):(kvsOf nm).length=nm.length:=aj _
theorem K5(nm:Nm)(x:Str):fk (kvsOf nm) (aH x:Key)=(dw nm x).map V.int:=by
 induction nm with
 |nil=>rfl
 |cons p r ih=>
  unfold fk kvsOf dw at ih⊢;rw[aM,bz,bz];by_cases h:p.1=x
  ·simp[h]
  ·have h2:¬(aH p.1:Key)=aH x:=fun z=>h (jG z);simp only[decide_eq_false h,decide_eq_false h2];exact ih
theorem Tp{nm:Nm}{x:Str}{s:Int}(h:dw nm x=none):gB (kvsOf nm) (aH x:Key) (.int s)=kvsOf (nm++[(x,s)]):=by
 unfold gB;have e:((kvsOf nm).any fun kv=>decide (kv.1=(aH x:Key)))=false:=by rw[HC,K5,h];rfl
 rw[e,if_neg (by decide)];unfold kvsOf;rw[aC];rfl
theorem ZB{nm:Nm}{x:Str}{s:Int}(h:dw nm x≠none):gB (kvsOf nm) (aH x:Key) (.int s)=kvsOf (putN nm x s):=by
 unfold gB;have e:((kvsOf nm).any fun kv=>decide (kv.1=(aH x:Key)))=true:=by
  rw[HC,K5];cases q:dw nm x with
  |none=>exact absurd q h
  |some v=>rfl
 rw[e,if_pos rfl];unfold kvsOf putN;rw[qS,qS];refine fZ fun p _=>?_;by_cases hp:p.1=x
 ·subst hp;simp
 ·have h2:¬(aH p.1:Key)=aH x:=fun z=>hp (jG z);simp[hp]
theorem ZC(nm:Nm)(x:Str):iP (kvsOf nm) (aH x:Key)=kvsOf (rR nm x):=by unfold iP kvsOf rR;rw[List.filter_map];congr 1;refine List.filter_congr fun p _=>?_;simp[Function.comp_def]
theorem K0{nm:Nm}{x y:Str}{s:Int}(h:dw nm x=none):dw (nm++[(x,s)]) y=if y=x then some s else dw nm y:=by
 unfold dw at h⊢;rw[DW];by_cases hy:y=x
 ·subst hy;rw[if_pos rfl];cases q:nm.find? fun p=>decide (p.1=y)with
  |none=>simp
  |some v=>rw[q]at h;cases h
 ·rw[if_neg hy];have e:([(x,s)]:Nm).find? (fun p=>decide (p.1=y))=none:=by have:¬x=y:=fun z=>hy z.symm;simp[this]
  rw[e];simp
theorem ZD{nm:Nm}{x:Str}{s:Int}(h:dw nm x=some s):(x,s)∈nm:=by
 unfold dw at h;cases q:nm.find? fun p=>decide (p.1=x)with
 |none=>rw[q]at h;cases h
 |some v=>
  rw[q]at h;have e1:v.2=s:=aK h;have e2:v.1=x:=by simpa using Gf q
  have:=wB q;rw[<-e1,<-e2];exact this
theorem X5{nm:Nm}{x:Str}{s:Int}(h:(x,s)∈nm):dw nm x≠none:=by
 unfold dw;intro z;have z:nm.find? (fun p=>decide (p.1=x))=none:=by simpa using z
 have:=Di.mp z _ h;simp at this
structure Mb(C:Addr)(H:Hp)(p fW:Addr)(nm:Nm):Prop where
 ex:∃dx fs,H p=some (.ins C dx fs)/\fs.lookup ("shares":Str)=some (.ref fW)/\(∀m:Str,¬m="shares"->fs.lookup m=none)/\fs.length<900
 hs:H fW=some (.dK (kvsOf nm))
theorem Mb.same{C:Addr}{H H':Hp}{p fW:Addr}{nm:Nm}(h:Mb C H p fW nm)(s:aQ H H'):Mb C H' p fW nm:=by obtain⟨dx,fs,h1,h2,h3,h4⟩:=h.ex;exact⟨⟨dx,fs,s _ _ h1,h2,h3,h4⟩,s _ _ h.hs⟩
theorem Mb.put{C:Addr}{H:Hp}{p fW:Addr}{nm yN:Nm}(h:Mb C H p fW nm):Mb C (aB H fW (.dK (kvsOf yN))) p fW yN:=by obtain⟨dx,fs,h1,h2,h3,h4⟩:=h.ex;exact⟨⟨dx,fs,by rw[bw (bQ h1 h.hs (by intro z;cases z))];exact h1,h2,h3,h4⟩,bh⟩
structure jm(H:Hp)(p:Addr)(f:Str->Option Rat)(n:Nat):Prop where
 ex:∃aI,H p=some (.dK aI)/\(∀x:Str,(f x=none/\fk aI (aH x:Key)=none)\/∃r q,f x=some r/\fk aI (aH x:Key)=some (.ref q)/\H q=some (.tup (fq r)))/\aI.length<=n
theorem jm.keep{H H':Hp}{p:Addr}{f:Str->Option Rat}{n:Nat}(h:jm H p f n)(e:∀b o,b=p\/(∃xs,H b=some (.tup xs))->H b=some o->H' b=some o):jm H' p f n:=by
 obtain⟨aI,h1,h2,h3⟩:=h.ex;refine⟨aI,e _ _ (.inl rfl) h1,fun x=>?_,h3⟩;rcases h2 x with z|⟨r,q,a,b,c⟩
 ·exact .inl z
 ·exact .inr ⟨r,q,a,b,e _ _ (.inr ⟨_,c⟩) c⟩
theorem jm.same{H H':Hp}{p:Addr}{f:Str->Option Rat}{n:Nat}(h:jm H p f n)(s:aQ H H'):jm H' p f n:=h.keep fun b o _ e=>s b o e
def vH(f:Str->Option Rat)(x:Str)(r:Rat):Str->Option Rat:=fun y=>if y=x then some r else f y
def At(f:Str->Option Rat)(x:Str):Str->Option Rat:=fun y=>if y=x then none else f y
theorem jm.put{H:Hp}{p q:Addr}{f:Str->Option Rat}{n:Nat}{x:Str}{r:Rat}{aI:List (Key×V)}(h1:H p=some (.dK aI))(h2:∀x:Str,(f x=none/\fk aI (aH x:Key)=none)\/∃r q,f x=some r/\fk aI (aH x:Key)=some (.ref q)/\H q=some (.tup (fq r)))(h3:(gB aI (aH x:Key) (.ref q)).length<=n)(hq:H q=some (.tup (fq r))):jm (aB H p (.dK (gB aI (aH x:Key) (.ref q)))) p (vH f x r) n:=by
  have nt:∀b xs,H b=some (.tup xs)->aB H p (.dK (gB aI (aH x:Key) (.ref q))) b=some (.tup xs):=fun b xs e=>by rw[bw (bQ e h1 (by intro z;cases z))];exact e
  refine⟨_,bh,fun y=>?_,h3⟩;rw[Zz];unfold vH;by_cases e:y=x
  · subst e;rw[if_pos rfl,if_pos rfl];exact .inr ⟨r,q,rfl,rfl,nt _ _ hq⟩
  · rw[if_neg e,if_neg (fun z=>e (jG z))];rcases h2 y with z|⟨r',q',a,b,c⟩
    · exact .inl z
    · exact .inr ⟨r',q',a,b,nt _ _ c⟩
theorem YX(aI:List (Key×V))(k j:Key):fk (iP aI k) j=if j=k then none else fk aI j:=by
 induction aI with
 |nil=>unfold fk iP;simp
 |cons p r ih=>
  unfold iP at ih⊢;rw[iz];by_cases hp:p.1=k
  ·rw[if_neg (by simp[hp]),ih];by_cases hj:j=k
   ·rw[if_pos hj,if_pos hj]
   ·rw[if_neg hj,if_neg hj,Ab (fun z=>hj (z.symm.trans hp))]
  ·rw[if_pos (by simp[hp])];by_cases e:p.1=j
   ·have:¬j=k:=fun z=>hp (e.trans z);rw[Bb e,if_neg this,Bb e]
   ·rw[Ab e,Ab e,ih]
theorem jm.del{H:Hp}{p:Addr}{f:Str->Option Rat}{n:Nat}{x:Str}{aI:List (Key×V)}(h1:H p=some (.dK aI))(h2:∀x:Str,(f x=none/\fk aI (aH x:Key)=none)\/∃r q,f x=some r/\fk aI (aH x:Key)=some (.ref q)/\H q=some (.tup (fq r)))(h3:(iP aI (aH x:Key)).length<=n):jm (aB H p (.dK (iP aI (aH x:Key)))) p (At f x) n:=by
  have nt:∀b xs,H b=some (.tup xs)->aB H p (.dK (iP aI (aH x:Key))) b=some (.tup xs):=fun b xs e=>by rw[bw (bQ e h1 (by intro z;cases z))];exact e
  refine⟨_,bh,fun y=>?_,h3⟩;rw[YX];unfold At;by_cases e:y=x
  · subst e;rw[if_pos rfl,if_pos rfl];exact .inl ⟨rfl,rfl⟩
  · rw[if_neg e,if_neg (fun z=>e (jG z))];rcases h2 y with z|⟨r',q',a,b,c⟩
    · exact .inl z
    · exact .inr ⟨r',q',a,b,nt _ _ c⟩
structure FS(fs:List (Str×V))(most:Int)(pm:Addr)(ch:V)(pr pt pg:Addr):Prop where
 mo:fs.lookup ("most":Str)=some (.int most)
 me:fs.lookup ("members":Str)=some (.ref pm)
 ch:fs.lookup ("chosen":Str)=some ch
 re:fs.lookup ("reached":Str)=some (.ref pr)
 ta:fs.lookup ("tags":Str)=some (.ref pt)
 gr:fs.lookup ("greatest_steps":Str)=some (.ref pg)
 no:∀m:Str,¬m="most"->¬m="members"->¬m="chosen"->¬m="reached"->¬m="tags"->¬m="greatest_steps"->fs.lookup m=none
 len:fs.length<900
theorem eJ{fs:List (Str×V)}{f g:Str}{v:V}(h:¬g=f):(ak f v fs).lookup g=fs.lookup g:=by rw[mY,if_neg h]
theorem qP{fs:List (Str×V)}{f:Str}{v:V}:(ak f v fs).lookup f=some v:=by rw[mY,if_pos rfl]
theorem FS.Eu(most:Int)(pm:Addr)(ch:V)(pr pt pg:Addr):FS (ak "greatest_steps" (.ref pg) (ak "tags" (.ref pt) (ak "reached" (.ref pr) (ak "chosen" ch (ak "members" (.ref pm) (ak "most" (.int most) [])))))) most pm ch pr pt pg:=by
 refine⟨?_,?_,?_,?_,?_,?_,fun m h1 h2 h3 h4 h5 h6=>?_,?_⟩
 ·rw[eJ (by decide+kernel),eJ (by decide+kernel),eJ (by decide+kernel),eJ (by decide+kernel),eJ (by decide+kernel),qP]
 ·rw[eJ (by decide+kernel),eJ (by decide+kernel),eJ (by decide+kernel),eJ (by decide+kernel),qP]
 ·rw[eJ (by decide+kernel),eJ (by decide+kernel),eJ (by decide+kernel),qP]
 ·rw[eJ (by decide+kernel),eJ (by decide+kernel),qP]
 ·rw[eJ (by decide+kernel),qP]
 ·rw[qP]
 ·rw[eJ h6,eJ h5,eJ h4,eJ h3,eJ h2,eJ h1];rfl
 ·have a1:=gP (fs:=[]) (f:="most") (v:=.int most);have a2:=gP (fs:=ak "most" (.int most) []) (f:="members") (v:=.ref pm);have a3:=gP (fs:=ak "members" (.ref pm) (ak "most" (.int most) [])) (f:="chosen") (v:=ch);have a4:=gP (fs:=ak "chosen" ch (ak "members" (.ref pm) (ak "most" (.int most) []))) (f:="reached") (v:=.ref pr);have a5:=gP (fs:=ak "reached" (.ref pr) (ak "chosen" ch (ak "members" (.ref pm) (ak "most" (.int most) [])))) (f:="tags") (v:=.ref pt);have a6:=gP (fs:=ak "tags" (.ref pt) (ak "reached" (.ref pr) (ak "chosen" ch (ak "members" (.ref pm) (ak "most" (.int most) []))))) (f:="greatest_steps") (v:=.ref pg);simp only[aU]at a1;omega
structure k9 where
 p:Addr
 pm:Addr
 ps:Addr
 pt:Addr
 pg:Addr
structure Sx(C Cm:Addr)(H:Hp)(a:k9)(most:Int)(nm:Nm)(tg gs:Str->Option Rat)(ck:Rat)(ch:V)(N:Nat):Prop where
 ex:∃dx fs pr,H a.p=some (.ins C dx fs)/\FS fs most a.pm ch pr a.pt a.pg/\H pr=some (.tup (fq ck))
 mb:Mb Cm H a.pm a.ps nm
 dt:jm H a.pt tg N
 dg:jm H a.pg gs N
 nl:nm.length<=N
 n1:a.pt≠a.pg
 n2:a.pt≠a.ps
 n3:a.pg≠a.ps
 n4:a.p≠a.pm
theorem Sx.same{C Cm:Addr}{H H':Hp}{a:k9}{most:Int}{nm:Nm}{tg gs:Str->Option Rat}{ck:Rat}{ch:V}{N:Nat}(h:Sx C Cm H a most nm tg gs ck ch N)(s:aQ H H'):Sx C Cm H' a most nm tg gs ck ch N:=by obtain⟨dx,fs,pr,h1,h2,h3⟩:=h.ex;exact⟨⟨dx,fs,pr,s _ _ h1,h2,s _ _ h3⟩,h.mb.same s,h.dt.same s,h.dg.same s,h.nl,h.n1,h.n2,h.n3,h.n4⟩
def oS(a:k9)(H H':Hp):Prop:=∀b o,b≠a.p->b≠a.ps->b≠a.pt->b≠a.pg->H b=some o->H' b=some o
theorem aQ.own{a:k9}{H H':Hp}(s:aQ H H'):oS a H H':=fun b o _ _ _ _ e=>s b o e
theorem oS.trans{a:k9}{H H1 H2:Hp}(x:oS a H H1)(y:oS a H1 H2):oS a H H2:=fun b o n1 n2 n3 n4 e=>y b o n1 n2 n3 n4 (x b o n1 n2 n3 n4 e)
theorem jm.mono{H:Hp}{p:Addr}{f:Str->Option Rat}{n n':Nat}(h:jm H p f n)(l:n<=n'):jm H p f n':=by obtain⟨aI,h1,h2,h3⟩:=h.ex;exact⟨aI,h1,h2,by omega⟩
section
variable{C Cm:Addr}{H:Hp}{a:k9}{most:Int}{nm yN:Nm}{tg gs QL PJ:Str->Option Rat}{ck:Rat}{ch:V}{N N':Nat}{k:List (Key×V)}
theorem Sx.Fz(S:Sx C Cm H a most nm tg gs ck ch N)(le:N<=N')(d:jm (aB H a.pt (.dK k)) a.pt QL N'):Sx C Cm (aB H a.pt (.dK k)) a most nm QL gs ck ch N':=by
 obtain⟨dx,fs,pr,h1,h2,h3⟩:=S.ex;obtain⟨aI,g1,_⟩:=S.dt.ex;obtain⟨dm,fm,m1,m2,m3,m4⟩:=S.mb.ex;have kp:∀b o,b≠a.pt->H b=some o->aB H a.pt (.dK k) b=some o:=fun b o n e=>by rw[bw n];exact e
 refine⟨⟨dx,fs,pr,kp _ _ (bQ h1 g1 (by intro z;cases z)) h1,h2,kp _ _ (bQ h3 g1 (by intro z;cases z)) h3⟩,⟨⟨dm,fm,kp _ _ (bQ m1 g1 (by intro z;cases z)) m1,m2,m3,m4⟩,kp _ _ S.n2.symm S.mb.hs⟩,d,(S.dg.keep fun b o c e=>?_).mono le,by have:=S.nl;omega,S.n1,S.n2,S.n3,S.n4⟩;rcases c with z|⟨xs,z⟩
 ·subst z;exact kp _ _ S.n1.symm e
 ·exact kp _ _ (bQ z g1 (by intro z;cases z)) e
theorem Sx.Fy(S:Sx C Cm H a most nm tg gs ck ch N)(le:N<=N')(d:jm (aB H a.pg (.dK k)) a.pg PJ N'):Sx C Cm (aB H a.pg (.dK k)) a most nm tg PJ ck ch N':=by
 obtain⟨dx,fs,pr,h1,h2,h3⟩:=S.ex;obtain⟨aI,g1,_⟩:=S.dg.ex;obtain⟨dm,fm,m1,m2,m3,m4⟩:=S.mb.ex;have kp:∀b o,b≠a.pg->H b=some o->aB H a.pg (.dK k) b=some o:=fun b o n e=>by rw[bw n];exact e
 refine⟨⟨dx,fs,pr,kp _ _ (bQ h1 g1 (by intro z;cases z)) h1,h2,kp _ _ (bQ h3 g1 (by intro z;cases z)) h3⟩,⟨⟨dm,fm,kp _ _ (bQ m1 g1 (by intro z;cases z)) m1,m2,m3,m4⟩,kp _ _ S.n3.symm S.mb.hs⟩,(S.dt.keep fun b o c e=>?_).mono le,d,by have:=S.nl;omega,S.n1,S.n2,S.n3,S.n4⟩;rcases c with z|⟨xs,z⟩
 ·subst z;exact kp _ _ S.n1 e
 ·exact kp _ _ (bQ z g1 (by intro z;cases z)) e
theorem Sx.xn(S:Sx C Cm H a most nm tg gs ck ch N)(le:N<=N')(ln:yN.length<=N'):Sx C Cm (aB H a.ps (.dK (kvsOf yN))) a most yN tg gs ck ch N':=by
 obtain⟨dx,fs,pr,h1,h2,h3⟩:=S.ex;have g1:=S.mb.hs;have kp:∀b o,b≠a.ps->H b=some o->aB H a.ps (.dK (kvsOf yN)) b=some o:=fun b o n e=>by rw[bw n];exact e
 refine⟨⟨dx,fs,pr,kp _ _ (bQ h1 g1 (by intro z;cases z)) h1,h2,kp _ _ (bQ h3 g1 (by intro z;cases z)) h3⟩,S.mb.put,(S.dt.keep fun b o c e=>?_).mono le,(S.dg.keep fun b o c e=>?_).mono le,ln,S.n1,S.n2,S.n3,S.n4⟩
 ·rcases c with z|⟨xs,z⟩
  ·subst z;exact kp _ _ S.n2 e
  ·exact kp _ _ (bQ z g1 (by intro z;cases z)) e
 ·rcases c with z|⟨xs,z⟩
  ·subst z;exact kp _ _ S.n3 e
  ·exact kp _ _ (bQ z g1 (by intro z;cases z)) e
end
theorem CD{a:k9}{H:Hp}{o:HO}:oS a H (aB H a.pt o):=fun b u n1 n2 n3 n4 e=>by rw[bw n3];exact e
theorem CC{a:k9}{H:Hp}{o:HO}:oS a H (aB H a.pg o):=fun b u n1 n2 n3 n4 e=>by rw[bw n4];exact e
theorem zG{a:k9}{H:Hp}{o:HO}:oS a H (aB H a.ps o):=fun b u n1 n2 n3 n4 e=>by rw[bw n2];exact e
theorem Fw:((0:Int):Rat) / ((1:Int):Rat)=0:=by have z0:((0:Int):Rat)=0:=rfl;rw[z0];grind
structure Iv(nm:Nm)(tg gs:Str->Option Rat)(ck:Rat)(D:Int)(n:Nat):Prop where
 d0:0<D
 dz:Sw.Sz (21*n+1) D
 cg:Sw.MA D ck
 c0:0<=ck
 cB:ck<=((n*2000000:Int):Rat)
 all:∀x s,dw nm x=some s->1<=s/\s<=1000000/\∃t g,tg x=some t/\gs x=some g/\Sw.MA D t/\Sw.MA D g/\0<=t/\0<=g/\g<=((1000000:Int):Rat)/\t<=ck+g
structure Hd where
 C:Addr
 i:Option Nat
 th:TS
section
variable{P:Program}{w:World}{X:Cx}{C':Addr}{x:Str}{np Jx pos:Pos}{body C6:List Stmt}{b0:Stmt}{tb:XH->TS}{th:TS}{h0:ExceptHandler}{Vx:List ExceptHandler}{hs:List Hd}
end
end L2
namespace Sw
abbrev F4:=Int×T3
def Vw(mo ma:Rat)(f:F4):Bool:=!decide (mo<(f.1:Rat)) && JC ma f.2
def Ei(fs:List F4)(mo ma:Rat):List Nat:=(jC fs.length).filter fun i=>match fs[i]? with|some f=>Vw mo ma f|none=>false
def QG(fs:List F4)(i:Nat):Int:=((fs[i]?).map fun f=>f.2.2.2).getD 0
def Vf(fs:List F4)(i:Nat):Rat:=((fs[i]?).map fun f=>f.2.2.1).getD 0
def LN(fs:List F4)(ps:List Nat):Int:=(ps.map (QG fs)).sum
def U7(fs:List F4)(mo:Rat):List Rat:=fs.filterMap fun f=>if mo<(f.1:Rat)then some (f.1:Rat)else none
def MY(fs:List F4)(mo ma:Rat):Rat:=mo+(Et ((Ei fs mo ma).map (Vf fs))-ma)*(LN fs (Ei fs mo ma):Rat)
def Lq(fs:List F4)(mo ma:Rat):List Rat:=U7 fs mo++(if Ei fs mo ma=[]then[]else[MY fs mo ma])
def mu(fs:List F4)(mo ma:Rat):Nat:=(fs.filter fun f=>decide (mo<(f.1:Rat))).length+(fs.filter fun f=>decide (ma<f.2.2.1)).length
end Sw
namespace Sw
open L2
structure Ti where
 lat:Int
 re:Rat
 us:List T3
 en:Int->Option Rat
end Sw
namespace L2
open PySem PySem.Spec PyProof.Rows
end L2
namespace Sw
open L2
section
variable{n:Nat}{M:Int}{a c:Nat}{fs:List F4}{D:Int}{mo ma:Rat}{G:Int}
end
section
variable{n:Nat}{M:Int}{a c:Nat}{fs:List F4}{D:Int}{mo ma:Rat}{G:Int}
end
end Sw
namespace Sw
open L2
end Sw
namespace Sw
open L2
structure MH where
 L:Int
 W:Int
 la:Int
 L0:0<L
 W0:0<W
 a0:0<=la
namespace MH
variable(z:MH)
def tm(x:Rat):Rat:=x*(z.L:Rat)+(z.la:Rat)
def q4(q:Q4):Q4:=(q.1*z.L+z.la,q.2.1,q.2.2.1*z.L,q.2.2.2*z.W)
variable{z}
variable(z)
end MH
end Sw
namespace Sw
open L2
def V7(fs:List F4)(s:Rat×Rat):Rat×Rat:=
 if Lq fs s.1 s.2=[]then s else if Ei fs s.1 s.2=[]then(Et (Lq fs s.1 s.2),s.2)else(Et (Lq fs s.1 s.2),s.2+(Et (Lq fs s.1 s.2)-s.1) / (LN fs (Ei fs s.1 s.2):Rat))
def yV(fs:List F4):Nat->Rat×Rat
 |0=>(0,0)
 |k+1=>V7 fs (yV fs k)
end Sw
namespace Sw
open L2
end Sw
namespace Sw
open L2
section
variable{fs:List F4}
end
end Sw
namespace Sw
open L2
section
variable{fs:List F4}
end
end Sw
namespace Sw
open L2
end Sw
namespace L2
open PySem PySem.Spec PyProof.Rows
section
variable{X:Cx}
end
end L2
namespace Sw
open L2
section
variable{fs:List F4}
end
end Sw
namespace Sw
open L2
section
variable{fs:List F4}
def ms(fs:List F4)(k:Nat)(t:Rat):Rat:=if Ei fs (yV fs k).1 (yV fs k).2=[]then(yV fs k).2 else(yV fs k).2+(t-(yV fs k).1) / (LN fs (Ei fs (yV fs k).1 (yV fs k).2):Rat)
def dn(f:F4)(m:Rat):Rat:=max f.2.1 (min m f.2.2.1)-f.2.1
end
section
variable{fs:List F4}{w:Nat->Int}
end
end Sw
namespace Sw
open L2
section
variable{fs yo:List F4}{w w':Nat->Int}{κ:Nat->Nat}
end
end Sw
namespace Sw
open L2
def KO(qs:List Q4)(i:Nat):Int:=((qs[i]?).map fun q=>q.2.1).getD 0
end Sw
namespace Sw
open L2
abbrev S3:=Int×Int×Rat
def tq:List Rat->Rat
 |[]=>0
 |x::r=>x+tq r
theorem UC:∀(a b:List Rat),tq (a++b)=tq a+tq b
 |[],b=>by show tq b=0+tq b;grind
 |x::r,b=>by show x+tq (r++b)=x+tq r+tq b;rw[UC r b];grind
theorem EL(a:List Rat)(x:Rat):tq (a++[x])=tq a+x:=by rw[UC];show tq a+(x+0)=_;grind
section
variable(ss:List S3)
def QF(i:Nat):Int:=((ss[i]?).map fun s=>s.1).getD 0
def U6(i:Nat):Int:=((ss[i]?).map fun s=>s.2.1).getD 0
end
section
variable{ss:List S3}{h:Nat->Rat}
end
end Sw
namespace Sw
open L2
section
variable{ss:List S3}{h:Nat->Rat}
end
end Sw
namespace Sw
open L2
section
variable{ss:List S3}{h:Nat->Rat}
end
end Sw
namespace Sw
end Sw
namespace L2
open PySem PySem.Spec PyProof.Rows
def fr(n:Nat)(h:Nat->Rat):List Rat:=(jC n).map h
def UW(H:Hp)(p:Addr)(s:Sw.S3):Prop:=∃pl pr,H p=some (.tup [.int s.1,.ref pl])/\H pl=some (.tup [.int s.2.1,.ref pr])/\H pr=some (.tup (fq s.2.2))
structure Lj(H:Hp)(l:Addr)(ps:List Addr)(ss:List Sw.S3):Prop where
 hl:H l=some (.lst (ps.map V.ref))
 r:Paired (UW H) ps ss
theorem Lj.len{H:Hp}{l:Addr}{ps:List Addr}{ss:List Sw.S3}(h:Lj H l ps ss):ps.length=ss.length:=Paired.length h.r
theorem MV:((0:Int):Rat) / ((1:Int):Rat)=0:=by decide+kernel
theorem MW(i:Int):(i:Rat) / ((1:Int):Rat)=(i:Rat):=by have:((1:Int):Rat)=1:=rfl;rw[this];grind
end L2
namespace Sw
open L2
end Sw
namespace L2
end L2
namespace Sw
open L2
end Sw
namespace L2
open PySem PySem.Spec PyProof.Rows
end L2
namespace Sw
open L2
end Sw
namespace L2
open PySem PySem.Spec PyProof.Rows
section
variable{X:Cx}
end
end L2
namespace Sw
open L2
section
variable{ss:List S3}
variable{L:Int}{m:Nat}
end
end Sw
namespace Sw
open L2
section
variable{ss:List S3}{L:Int}{m:Nat}
end
end Sw
namespace L2
open PySem PySem.Spec PyProof.Rows
section
variable{prog:Program}{w:World}{A:Around}{E:Value->Shared->Prop}{s:Shared}
end
section
variable{prog:Program}{w:World}{A:Around}{E:Value->Shared->Prop}{s:Shared}
end
section
variable{X:Cx}
end
end L2
namespace Sw
open L2
end Sw
namespace L2
open PySem PySem.Spec PyProof.Rows
def ms(H:Hp)(S:List Addr):Hp:=fun b=>if b∈S then none else H b
section
variable{ss:List Sw.S3}{l l1 tl hl kl pn:Addr}{ps cp hp kp S:List Addr}{xs:List (Nat×Addr)}{j:Nat}{g:Nat->Rat}{H H':Hp}
end
end L2
namespace Sw
structure Pq(ss:List S3):Prop where
 n8:ss.length<=8
 sz:∀i,fM 1200 (tq ((ss.map fun s=>s.2.2).take i))
 rz:∀s∈ss,fM 1200 s.2.2
end Sw
namespace L2
open PySem PySem.Spec PyProof.Rows
end L2
namespace Sw
open L2
section
variable{sh bu:Int}{r:Rat}
end
end Sw
namespace Sw
open L2
abbrev WI:=Nat×Q4×Rat×Rat
def QM(i:WI):Int:=i.2.1.1
section
variable{s:Ti}{free:Int}{T G Qu:List WI}{D B:Int}
end
end Sw
namespace L2
open PySem PySem.Spec PyProof.Rows PySem.MeetsSeq
section
variable{X:Cx}
end
end L2
namespace L2
open PySem PySem.Spec PyProof.Rows
section
variable{X:Cx}
end
end L2
namespace Sw
open L2
abbrev WS:=Int×List WI×List (Nat×Int)
def E3(free:Int):List WI->Int
 |[]=>free
 |i::_=>if QM i > free then QM i else free
def Ji(Fi:Option Int)(x:WS):Prop:=x.2.1≠[]/\∀a,Fi=some a->E3 x.1 x.2.1<a
instance (Fi:Option Int)(x:WS):Decidable (Ji Fi x):=by
 unfold Ji;cases Fi with
 |none=>exact decidable_of_iff (x.2.1≠[]) ⟨fun h=>⟨h,fun a e=>by cases e⟩,fun h=>h.1⟩
 |some b=>exact decidable_of_iff (x.2.1≠[]/\E3 x.1 x.2.1<b) ⟨fun h=>⟨h.1,fun a e=>by cases e;exact h.2⟩,fun h=>⟨h.1,h.2 b rfl⟩⟩
section
variable{s:Ti}{T G:List WI}{x:WS}{D B:Int}
end
end Sw
namespace L2
open PySem PySem.Spec PyProof.Rows
end L2
namespace Sw
open L2
section
variable{n:Nat}{M:Int}{a c:Nat}{s:Ti}{k:Nat}{T G:List WI}{D:Int}{x:WS}
end
end Sw
namespace Sw
open L2
section
variable{n:Nat}{M:Int}{a c:Nat}{qs:List Q4}{s:Ti}{k:Nat}{T G:List WI}{D:Int}{x:WS}
end
end Sw
namespace Sw
open L2
section
variable{n:Nat}{M:Int}{a c:Nat}{s:Ti}{t k:Nat}{T G:List WI}{D:Int}{x:WS}
end
end Sw
namespace Sw
open L2
section
variable{n:Nat}{M:Int}{a c:Nat}{s:Ti}{t k:Nat}{T G:List WI}{D:Int}{x:WS}
end
end Sw
namespace L2
open PySem PySem.Spec PyProof.Rows
def MC(a:Addr)(o:Obj)(aI:List (Key×V)):It:=
 ⟨fun i H=>i<aI.length/\H a=some (.frz o (.dK aI)),fun i H x H'=>∃p kv,x= .ref p/\H p=none/\aI[i]?=some kv/\H'=aB H p (.tup [kV kv.1,kv.2]),fun i H=>aI.length<=i/\H a=some (.frz o (.dK aI))⟩
theorem Yu {P:Program} {w:World} {K:aa} {vg:List Expr} {x1} {pos:Pos} (a it:Addr) {o:Obj} {aI:List (Key×V)} {vs:List (Key×Value)} {es:Array DictEntry} {ep:Nat} (jT:KV aI vs)
    (ho:o.ExactDict/\o.data = .dict es ep/\KeysOf (qZ P w) es/\Pairs (qZ P w) es.toList vs/\(vs.map (·.1)).Nodup):Ar P w K (.Tuple vg x1 pos) (MC a o aI) [it] it (fun i h=>∃ ok ov,IsItemIter h it a i vs.length ep ok ov) where
  mem:=by simp
  obj:=fun i h st b hb=>by
    have e:b=it:=by simpa using hb
    subst e
    obtain ⟨ok,ov,e⟩:=st
    exact ⟨_,e,fun v z=>by cases z⟩
  keep:=fun i h h' st k=>by
    obtain ⟨ok,ov,e⟩:=st
    exact ⟨ok,ov,k it (by simp) _ e⟩
  item:=by
    intro X hP hw hK hc i ae s σ H E I hf st hg
    subst hP hw hK
    obtain ⟨hi,hz⟩:=hg
    obtain ⟨ok,ov,he⟩:=st
    obtain ⟨f0,f1,f2,f3,f4,f5⟩:=hf it (by simp)
    have Cf:aI[i]? = some (aI[i]'hi):=gu _
    have Lx:i<vs.length:=by rw [<- jT.length]; exact hi
    have hv:vs[i]? = some (vs[i]'Lx):=gu _
    obtain ⟨q,hq,rq⟩:=Oz jT Cf
    rw [hv] at hq
    cases hq
    have da:s.heap.DictAt (qZ X.prog X.w) a vs ep:=⟨o,es,(I.cu a _ hz).1,ho⟩
    refine wpAny_pyNext_items_item (v:=(vs[i]'Lx).2) he da hv fun key h' GD AB hT hsz hk=>?_
    refine ⟨.ref s.heap.objs.size,rfl,wpAny_letOwnedTupleGo_items AB fun AD VS DA=>?_⟩
    have AE:Heap.SameBut it h' AD:=DA
    have QA:s.heap.objs.size≠it:=lO (Heap.lt_size he)
    have GL:AD.get? s.heap.objs.size=some { cls:=.type "tuple", data:=.seq #[key,(vs[i]'Lx).2] }:=(AE.2 _ QA).trans hT
    have k2:∀ c o,c ∉ [it]->s.heap.get? c=some o->AD.get? c=some o:=fun c o n q=>by
      simp only [ah,eG,or_false] at n
      exact (AE.2 c n).trans (hk c o n q)
    have fresh:H s.heap.objs.size=none:=I.cu.fresh (ao _)
    have Fl:∀ c v,H c=some v->c ∉ [it]:=fun c v q h=>by
      have e:c=it:=by simpa using h
      rw [e,f0] at q; cases q
    have up:∀ c o,H c=some o->(aB H s.heap.objs.size (.tup [kV (aI[i]'hi).1,(aI[i]'hi).2])) c=some o:=fun c o q=>by rw [bw (gq q fresh)]; exact q
    have rk:RelV (kV (aI[i]'hi).1) key:=by rw [rq.1]; exact JE GD
    have I2:Inv X ae σ (aB H s.heap.objs.size (.tup [kV (aI[i]'hi).1,(aI[i]'hi).2])) { s with heap:=AD }:=by
      refine I.step (t':=s.toks) (g':=s.gens) (d':=s.drawn) (ch:=[it]) (fun c hc=>?_) (fun c o _ _ hc q _=>k2 c o hc q)
        (fun c o _ _ hc q _=>⟨o.slots,k2 c o hc q⟩) (fun c o _ q n=>by rw [bw (aJ (Heap.lt_size q))]; exact n)
        (fun c o hc q=>⟨o,k2 c o hc q⟩) (fun c zs q=>up c _ q) (fun c ob v q=>up c _ q) (fun c ps q=>⟨#[],by rw [up c _ q]; simp⟩) (fun m hm=>?_) (fun c v q=>?_) I.bare
      · obtain ⟨f0,f1,f2,f3,f4,f5⟩:=hf c hc
        exact ⟨f3,f1,f4,f5⟩
      · obtain ⟨o,es,ep,ho,r⟩:=hm
        refine ⟨o,es,ep,k2 _ o (fun h=>?_) ho,r⟩
        exact (hf _ h).2.1 rfl
      · by_cases hb:c=s.heap.objs.size
        · subst hb
          rw [bh] at q
          cases q
          exact ⟨by show 2<=sizeLine; decide,[key,(vs[i]'Lx).2],.cons rk (.cons rq.2 .nil),_,GL,rfl,_,rfl⟩
        · rw [bw hb] at q
          refine (I.cu c v q).gm (fun d v' hd q'=>?_) (fun d y=>up d _ y) fun d zs y=>up d _ y
          refine k2 d v' ?_ q'
          rcases hd with y | y
          · rw [y]; exact Fl c v q
          · exact Fl d _ y
    refine ⟨.ref s.heap.objs.size,_,I2,rfl,⟨s.heap.objs.size,_,rfl,fresh,Cf,rfl⟩,⟨_,_,VS⟩,fun c hc=>?_⟩
    have e:c=it:=by simpa using hc
    subst e
    rw [bw QA.symm]
    exact f0
  done:=by
    intro X hP hw hK hc i ae s σ H E I hf st hg
    subst hP hw hK
    obtain ⟨hi,hz⟩:=hg
    obtain ⟨ok,ov,he⟩:=st
    obtain ⟨f0,f1,f2,f3,f4,f5⟩:=hf it (by simp)
    have da:s.heap.DictAt (qZ X.prog X.w) a vs ep:=⟨o,es,(I.cu a _ hz).1,ho⟩
    exact wpAny_pyNext_items_end (I.ok.hd hc) he da (lZ (by rw [<- jT.length]; exact hi)) fun h' eb=>⟨rfl,I.turned (t':=s.toks) (fun b o hb e=>eb b o hb e) f0 f1 f3 f4 f5⟩
  self:=fun _ _ _ _ _ st h=>by
    obtain ⟨ok,ov,he⟩:=st
    exact PySem.W.kcp_self he h
section
variable{X:Cx}
end
section
variable{X:Cx}{ae:List (Addr×Obj)}{σ:St}{H:Hp}{s:Shared}{a vw:Addr}{aI:List (Key×V)}{Q:VK}
end
end L2
namespace Sw
open L2
section
variable{fs:List F4}{w:Nat->Int}
end
end Sw
namespace L2
open PySem PySem.Spec PyProof.Rows
section
variable{X:Cx}
end
section
variable{X:Cx}
end
end L2
namespace Sw
open L2
def hL(qs:List Q4)(dn:List Nat)(mo:Rat):Nat->List Nat
 |0=>[]
 |i+1=>match qs[i]? with
  |some q=>if i∉dn/\q.2.1∉(hL qs dn mo i).map (KO qs)/\(q.1:Rat)<=mo then hL qs dn mo i++[i]else hL qs dn mo i
  |none=>hL qs dn mo i
end Sw
namespace Sw
open L2
section
variable{fs:List F4}{w:Nat->Int}
def cT(fs:List F4)(t:Rat)(i k:Nat):Rat:=if i∈Ei fs (yV fs k).1 (yV fs k).2/\(yV fs k).1<t then(QG fs i:Rat) / (LN fs (Ei fs (yV fs k).1 (yV fs k).2):Rat)*(min (yV fs (k+1)).1 t-(yV fs k).1)else 0
end
end Sw
namespace Sw
open L2
section
variable{n:Nat}{M:Int}{a c:Nat}{fs:List F4}{D:Int}{w:Nat->Int}
end
end Sw
namespace Sw
open L2
section
variable{qs:List Q4}{k:Nat}{dr:List Nat}{x:WS}{s:Ti}
end
section
variable{n:Nat}{M:Int}{a c:Nat}{rm:Int->Option Int}{qs:List Q4}
end
end Sw
namespace L2
open PySem PySem.Spec PyProof.Rows
section
variable{X:Cx}
end
def UD(tl:TE):TI:=fun σ H R=>tl σ H fun x H1=>∃a aI,x= .ref a/\H1 a=some (.dK aI)/\∀o,R (MC a o aI) (aB H1 a (.frz o (.dK aI)))
section
variable{X:Cx}
theorem ZE{o:Expr}{fP fQ y9:Pos}{vg:List Expr}{x1}{tl:TE}(hl:PE X o tl)(nH:attributeBase o "items" X.env (eval o X.env)=eval o X.env:=by rfl)(nJ:(fP.endLine ==fQ.line)=true:=by rfl):
    PI X (.Tuple vg x1 y9) (.Call (.Attribute o "items" fP) [] [] fQ) (UD tl):=by
  intro ae s σ H R I h;refine wpAny_Call_method0_late nH nJ (d7 (hl ae s σ H _ I h) fun v s1⟨x,H1,I1,r1,a,aI,ex,ha,rT⟩=>?_);subst ex;obtain rfl:v=Value.ref a:=r1;obtain⟨t1,t2,_⟩:=UB I1 (.inl ⟨aI,.inl ha⟩);obtain⟨z,hd,vs,jT,o',es,ep,ho,hx⟩:=zp I1.cu ha;refine⟨"dict","dict.items",v5,v7,PySem.F.type_dict_items,t1,t2,Calls.callWith_builtin rfl (Bl ?_)⟩;refine call_meetsIn v7 t1 PySem.F.entry_dict_items (PySem.F.args_dict_items_1 _) (meets_dict_items (qZ X.prog X.w) a hd) ⟨⟨vs,o',es,ep,ho,hx⟩,?_⟩;have Iv:Inv X ae σ H1 {s1 with heap:=s1.heap.push {cls:=.type "dict_items",data:=.fields #[.ref a]}}:=I1.kept (t':=s1.toks) fun b o e=>Heap.get?_push_of_some _ e;have Nj:(s1.heap.push {cls:=.type "dict_items",data:=.fields #[.ref a]}).get? a=some o':=Heap.get?_push_of_some _ ho;have Qh:(s1.heap.push {cls:=.type "dict_items",data:=.fields #[.ref a]}).IsItemsView s1.heap.objs.size a:=⟨_,Heap.get?_push_size _ rfl,rfl,rfl⟩;generalize s1.heap.push {cls:=.type "dict_items",data:=.fields #[.ref a]}=hv at Iv Nj Qh⊢;refine wpAny_pyIter_items (s:={s1 with heap:=hv}) (knd:=qZ X.prog X.w) Qh ⟨o',es,Nj,hx⟩ ?_;have fresh:H1 hv.objs.size=none:=Iv.cu.fresh (ao _);have na:hv.objs.size≠a:=fun y=>by rw[y,ha]at fresh;cases fresh
  have I2:Inv X ae σ (aB H1 a (.frz o' (.dK aI))) {s1 with heap:=hv.push {cls:=.type "dict_itemiterator",data:=.fields #[.none,.bool false,.ref a,.int 0 0,.int vs.length 0,.int ep 0,.none,.none]}}:=
    (Iv.kept (t':=s1.toks) fun b o e=>Heap.get?_push_of_some _ e).frozen ha (Heap.get?_push_of_some _ Nj);refine⟨hv.objs.size,[hv.objs.size],_,_,_,rfl,I2,Yu a _ jT hx,⟨.none,.none,Heap.get?_push_size _ rfl⟩,fun b hb=>?_,rT o'⟩;have e:b=hv.objs.size:=by simpa using hb
  subst e;have Vk:=Iv.Ax (ao _) fresh;exact⟨by rw[bw na];exact fresh,Vk.2⟩
def FU(t:TE):TE:=fun σ H Q=>t σ H fun x H'=>∃a o aI JG,H a=some (.dK JG)/\H' a=some (.frz o (.dK aI))/\Q x (aB H' a (.dK aI))
theorem zxc{e:Expr}{t:TE}(h:PE X e t):PE X e (FU t):=by intro ae s σ H Q I q;refine d7 (h ae s σ H _ I q) fun v s1⟨x,H1,I1,r1,a,o,aI,JG,h0,h1,q1⟩=>?_;refine⟨x,_,I1.Hz h1 fun o' u e=>?_,r1,q1⟩;have:=I.base.lT a o' u e;rw[h0]at this;cases this
end
theorem Yv{a:Addr}{aI:List (Key×V)}{o:Obj}{g:TG}{tc:TT}{te:TE}{D:Addr}{τ:St}{H:Hp}{Q:VK}(Pv:Nat->St->Hp->Prop)(h0:Pv 0 τ H)(hz:∀i τ H,i<=aI.length->Pv i τ H->H a=some (.frz o (.dK aI)))(hs:∀i kv τ H p,aI[i]?=some kv->Pv i τ H->H p=none->g (.ref p) τ (aB H p (.tup [kV kv.1,kv.2])) fun τ2 H3=>tc τ2 H3 fun b H4=>if b=true then te τ2 H4 fun y H5=>∃ys,H5 D=some (.lst ys)/\ys.length<sizeLine/\Pv (i+1) τ2 (aB H5 D (.lst (ys++[y])))else Pv (i+1) τ2 H4)(hd:∀τ H,Pv aI.length τ H->Q (.ref D) H):uq (MC a o aI) g tc te D τ H Q:=by
  refine⟨fun i m τ H=>m=aI.length-i/\i<=aI.length/\Pv i τ H,⟨aI.length,by simp,di _,h0⟩,?_⟩;rintro i m τ H ⟨rfl,hi,p⟩;have q:=hz i τ H hi p;by_cases oH:i<aI.length
  · refine .inr ⟨⟨oH,q⟩,Pv (i+1),fun τ' H' p'=>⟨aI.length-(i+1),by omega,rfl,oH,p'⟩,fun x H2 z=>?_⟩;obtain⟨b,kv,rfl,hb,Cf,rfl⟩:=z;exact hs i kv τ H b Cf p hb
  · have e:i=aI.length:=by omega
    subst e;exact .inl ⟨⟨ao _,q⟩,hd τ H p⟩
def CB:Option Str->V
 |none=>.non
 |some x=>.str x
structure FR(fs:List (Str×V))(most:Int)(pm:Addr)(ch:V)(pt pg:Addr)(tu:Option Str):Prop where
 mo:fs.lookup ("most":Str)=some (.int most)
 me:fs.lookup ("members":Str)=some (.ref pm)
 ch:fs.lookup ("chosen":Str)=some ch
 qu:fs.lookup ("queue":Str)=some (.ref pt)
 re:fs.lookup ("rests":Str)=some (.ref pg)
 tu:fs.lookup ("turn":Str)=some (CB tu)
 no:∀m:Str,¬m="most"->¬m="members"->¬m="chosen"->¬m="queue"->¬m="rests"->¬m="turn"->fs.lookup m=none
 len:fs.length<900
theorem FR.Eu(most:Int)(pm:Addr)(ch:V)(pt pg:Addr):FR (ak "turn" .non (ak "rests" (.ref pg) (ak "queue" (.ref pt) (ak "chosen" ch (ak "members" (.ref pm) (ak "most" (.int most) [])))))) most pm ch pt pg none:=by
 refine⟨?_,?_,?_,?_,?_,?_,fun m h1 h2 h3 h4 h5 h6=>?_,?_⟩
 ·rw[eJ (by decide+kernel),eJ (by decide+kernel),eJ (by decide+kernel),eJ (by decide+kernel),eJ (by decide+kernel),qP]
 ·rw[eJ (by decide+kernel),eJ (by decide+kernel),eJ (by decide+kernel),eJ (by decide+kernel),qP]
 ·rw[eJ (by decide+kernel),eJ (by decide+kernel),eJ (by decide+kernel),qP]
 ·rw[eJ (by decide+kernel),eJ (by decide+kernel),qP]
 ·rw[eJ (by decide+kernel),qP]
 ·rw[qP];rfl
 ·rw[eJ h6,eJ h5,eJ h4,eJ h3,eJ h2,eJ h1];rfl
 ·have a1:=gP (fs:=[]) (f:="most") (v:=.int most);have a2:=gP (fs:=ak "most" (.int most) []) (f:="members") (v:=.ref pm);have a3:=gP (fs:=ak "members" (.ref pm) (ak "most" (.int most) [])) (f:="chosen") (v:=ch);have a4:=gP (fs:=ak "chosen" ch (ak "members" (.ref pm) (ak "most" (.int most) []))) (f:="queue") (v:=.ref pt);have a5:=gP (fs:=ak "queue" (.ref pt) (ak "chosen" ch (ak "members" (.ref pm) (ak "most" (.int most) [])))) (f:="rests") (v:=.ref pg);have a6:=gP (fs:=ak "rests" (.ref pg) (ak "queue" (.ref pt) (ak "chosen" ch (ak "members" (.ref pm) (ak "most" (.int most) []))))) (f:="turn") (v:=.non);simp only[aU]at a1;omega
structure Rx(C Cm:Addr)(H:Hp)(a:k9)(most:Int)(nm:Nm)(q:List Str)(rs:Nm)(tu:Option Str)(ch:V):Prop where
 ex:∃dx fs,H a.p=some (.ins C dx fs)/\FR fs most a.pm ch a.pt a.pg tu
 mb:Mb Cm H a.pm a.ps nm
 hq:H a.pt=some (.lst (q.map V.str))
 hr:H a.pg=some (.dK (kvsOf rs))
 n3:a.pg≠a.ps
 n4:a.p≠a.pm
section
variable{C Cm:Addr}{H H':Hp}{a:k9}{most:Int}{nm yN:Nm}{q q':List Str}{rs NX:Nm}{tu tu':Option Str}{ch ch':V}
theorem Rx.Kf(S:Rx C Cm H a most nm q rs tu ch):Rx C Cm (aB H a.pt (.lst (q'.map V.str))) a most nm q' rs tu ch:=by
 obtain⟨dx,fs,h1,h2⟩:=S.ex;obtain⟨dm,fm,m1,m2,m3,m4⟩:=S.mb.ex;have kp:∀b o,b≠a.pt->H b=some o->aB H a.pt (.lst (q'.map V.str)) b=some o:=fun b o n e=>by rw[bw n];exact e
 exact⟨⟨dx,fs,kp _ _ (bQ h1 S.hq (by intro z;cases z)) h1,h2⟩,⟨⟨dm,fm,kp _ _ (bQ m1 S.hq (by intro z;cases z)) m1,m2,m3,m4⟩,kp _ _ (bQ S.mb.hs S.hq (by intro z;cases z)) S.mb.hs⟩,bh,kp _ _ (bQ S.hr S.hq (by intro z;cases z)) S.hr,S.n3,S.n4⟩
theorem Rx.Kg(S:Rx C Cm H a most nm q rs tu ch):Rx C Cm (aB H a.pg (.dK (kvsOf NX))) a most nm q NX tu ch:=by
 obtain⟨dx,fs,h1,h2⟩:=S.ex;obtain⟨dm,fm,m1,m2,m3,m4⟩:=S.mb.ex;have kp:∀b o,b≠a.pg->H b=some o->aB H a.pg (.dK (kvsOf NX)) b=some o:=fun b o n e=>by rw[bw n];exact e
 exact⟨⟨dx,fs,kp _ _ (bQ h1 S.hr (by intro z;cases z)) h1,h2⟩,⟨⟨dm,fm,kp _ _ (bQ m1 S.hr (by intro z;cases z)) m1,m2,m3,m4⟩,kp _ _ S.n3.symm S.mb.hs⟩,kp _ _ (bQ S.hq S.hr (by intro z;cases z)) S.hq,bh,S.n3,S.n4⟩
theorem Rx.xn(S:Rx C Cm H a most nm q rs tu ch):Rx C Cm (aB H a.ps (.dK (kvsOf yN))) a most yN q rs tu ch:=by
 obtain⟨dx,fs,h1,h2⟩:=S.ex;have g1:=S.mb.hs;have kp:∀b o,b≠a.ps->H b=some o->aB H a.ps (.dK (kvsOf yN)) b=some o:=fun b o n e=>by rw[bw n];exact e
 exact⟨⟨dx,fs,kp _ _ (bQ h1 g1 (by intro z;cases z)) h1,h2⟩,S.mb.put,kp _ _ (bQ S.hq g1 (by intro z;cases z)) S.hq,kp _ _ S.n3 S.hr,S.n3,S.n4⟩
theorem Rx.JK{m:Str}{Z:Prop}(S:Rx C Cm H a most nm q rs tu ch)(h:¬m="most"/\¬m="members"/\¬m="chosen"/\¬m="queue"/\¬m="rests"/\¬m="turn")(z:Z):xh C m (.ref a.p) H Z:=by obtain⟨dx,fs,hp,ft⟩:=S.ex;exact kh hp (ft.no _ h.1 h.2.1 h.2.2.1 h.2.2.2.1 h.2.2.2.2.1 h.2.2.2.2.2) z
end
end L2
namespace Sw
open L2 PySem
theorem CO{nm:Nm}{x:Str}:dw nm x≠none↔x∈nm.map (·.1):=by
 constructor
 ·intro h;cases e:dw nm x with
  |none=>exact absurd e h
  |some s=>exact aZ.mpr ⟨_,ZD e,rfl⟩
 ·intro h;obtain⟨p,hp,e⟩:=aZ.mp h;have:(x,p.2)∈nm:=by rw[<-e];exact hp
  exact X5 this
theorem ji{nm:Nm}{x:Str}:dw nm x=none↔x∉nm.map (·.1):=by
 constructor
 ·exact fun h z=>CO.mpr z h
 ·intro h;cases e:dw nm x with
  |none=>rfl
  |some s=>exact absurd (CO.mp (by rw[e];simp)) h
structure RI(most:Int)(nm:Nm)(q:List Str)(rs:Nm)(tu:Option Str):Prop where
 m0:1<=most
 ks:rs.map (·.1)=nm.map (·.1)
 nd:(nm.map (·.1)).Nodup
 pm:(q++tu.toList).Perm (nm.map (·.1))
 sh:∀x s,dw nm x=some s->1<=s/\s<=1000000
 bd:∀x s,dw nm x=some s->∃r,dw rs x=some r/\0-most<r/\r<=s*most/\(0<r->tu=some x)
section
variable{most:Int}{nm:Nm}{q:List Str}{rs:Nm}{tu:Option Str}
theorem RI.nil(h:1<=most):RI most [] [] [] none:=⟨h,rfl,.nil,.refl _,fun x s e=>(by cases e),fun x s e=>(by cases e)⟩
theorem RI.put(h:RI most nm q rs tu){x:Str}{s:Int}(hx:dw nm x=none)(s0:1<=s)(s1:s<=1000000):RI most (nm++[(x,s)]) (q++[x]) (rs++[(x,0)]) tu:=by
 have hr:dw rs x=none:=by rw[ji,h.ks,<-ji];exact hx
 refine⟨h.m0,?_,?_,?_,fun y t e=>?_,fun y t e=>?_⟩
 ·rw[aC,aC,h.ks];rfl
 ·rw[aC];refine bS.mpr ⟨h.nd,by simp,fun a ha b hb=>?_⟩;have:b=x:=by simpa using hb
  subst this;exact fun z=>ji.mp hx (z▸ha)
 ·rw[aC];have:=h.pm.append_right [x];refine List.Perm.trans ?_ this;rw[DV,DV];exact List.Perm.append_left _ List.perm_append_comm
 ·rw[K0 hx]at e;split at e
  ·cases e;exact⟨s0,s1⟩
  ·exact h.sh y t e
 ·rw[K0 hx]at e;rw[K0 hr];have m0:=h.m0;split at e
  ·rename_i c
   cases e;rw[if_pos c];have:=Int.mul_le_mul s0 h.m0 (by omega) (by omega)
   exact⟨0,rfl,by omega,by omega,fun z=>absurd z (by decide)⟩
  ·rename_i c
   rw[if_neg c];exact h.bd y t e
end
end Sw
namespace L2
open PySem PySem.Spec PyProof.Rows
section
variable{X:Cx}
end
section
variable{X:Cx}
end
section
variable{prog:Program}{w:World}{A:Around}{E:Value->Shared->Prop}{h:Heap}{g:Array GenState}{d:Drawn}{t:Nat}{os:OsState}{a:Addr}{dJ:Array Value}{n:Nat}
end
section
variable{prog:Program}{w:World}{A:Around}{R:Result->Shared->Prop}
end
section
variable{X:Cx}
end
end L2
namespace Sw
open L2
section
variable{fs:List F4}{w:Nat->Int}
end
end Sw
namespace Sw
open L2
end Sw
namespace Sw
open L2
section
variable{n:Nat}{M:Int}{a c:Nat}{T:List WI}
end
end Sw
namespace Sw
open L2
section
variable{n:Nat}{M:Int}{a c:Nat}{rm:Int->Option Int}{qs:List Q4}
end
end Sw
namespace L2
open PySem PySem.Spec PyProof.Rows PySem.MeetsSeq
section
variable{X:Cx}
end
end L2
namespace Sw
open L2
end Sw
namespace Sw
open L2
section
variable{n:Nat}{M:Int}{a c:Nat}{qs:List Q4}
end
end Sw
namespace Sw
open L2
section
variable{ss:List S3}{L:Int}{m:Nat}
def eS(ss:List S3)(i:Nat):Rat:=(U6 ss i:Rat) / (QF ss i:Rat)
def FS(ss:List S3)(x:Rat):Rat:=tq ((jC ss.length).map fun j=>(QF ss j:Rat)*min x (eS ss j))
end
end Sw
namespace Sw
open L2
section
variable{n:Nat}{M:Int}{a c:Nat}{qs:List Q4}{A:Int}{sh:Int->Int}
end
end Sw
namespace L2
open PySem PySem.Spec PyProof.Rows
def Oi(t1 t2:TE):TE:=fun σ H Q=>t1 σ H Q\/t2 σ H Q
section
variable{X:Cx}
theorem zyw{e:Expr}{t1 t2:TE}(h1:PE X e t1)(h2:PE X e t2):PE X e (Oi t1 t2):=fun ae s σ H Q I h=>h.elim (h1 ae s σ H Q I) (h2 ae s σ H Q I)
def NW:V->Option Int->Option Int->Hp->VK->Prop:=fun x lo hi H Q=>∃z,x= .str z/\z.length<=sizeLine/\Q (.str (Txt.slice z lo hi)) H
theorem zyx:Li X NW:=by
 intro ae s σ H x v vl vu lo hi sl Q I rx hs pl pu h;obtain⟨z,rfl,hz,q⟩:=h;obtain⟨t,rfl⟩:=rx;refine⟨"str",_,slot_str_getitem.lookup,typeIs_str s z t,?_⟩;have gM:∀l u:Option (Int×Tok),l.map (·.1)=lo->u.map (·.1)=hi->(sliceMade z t l u none).post (EP X ae σ Q) s:=fun l u el eu=>by
  unfold sliceMade;unfold Txt.slice at q;rw[<-el,<-eu]at q;have q:Q (.str (if((Option.map (fun x:Int×Tok=>x.1) none).getD 1 ==1 && (slicePicked z l u none).length ==z.length)=true then z else{cps:=(HN (fun x=>z.cps[x]?) (slicePicked z l u none)).toArray})) H:=q;split
  ·rename_i c
   rw[if_pos c]at q;exact⟨.str z,H,I,⟨_,rfl⟩,q⟩
  ·rename_i c
   rw[if_neg c]at q;have le:=Txt.slice_le z lo hi;unfold Txt.slice at le;rw[<-el,<-eu]at le;have le:(if((Option.map (fun x:Int×Tok=>x.1) none).getD 1 ==1 && (slicePicked z l u none).length ==z.length)=true then z else{cps:=(HN (fun x=>z.cps[x]?) (slicePicked z l u none)).toArray}).length<=z.length:=le;rw[if_neg c]at le;exact⟨bf le hz,.str _,H,I.tok _,⟨_,rfl⟩,q⟩
 cases pl with
 |none=>cases pu with
  |none=>exact wpAny_getItem_str_slice (l:=none) (u:=none) (st:=none) hs rfl (gM none none rfl rfl)
  |int j uj=>exact wpAny_getItem_str_slice (l:=none) (u:=some (j,uj)) (st:=none) hs rfl (gM none (some (j,uj)) rfl rfl)
 |int i ui=>cases pu with
  |none=>exact wpAny_getItem_str_slice (l:=some (i,ui)) (u:=none) (st:=none) hs rfl (gM (some (i,ui)) none rfl rfl)
  |int j uj=>exact wpAny_getItem_str_slice (l:=some (i,ui)) (u:=some (j,uj)) (st:=none) hs rfl (gM (some (i,ui)) (some (j,uj)) rfl rfl)
end
section
variable{X:Cx}
end
def sg(c:Nat):Str:=⟨#[c]⟩
def ME(z:Str):It:=⟨fun i _=>i<z.length,fun i H x H'=>H'=H/\∃c,z.cps.toList[i]?=some c/\x= .str (sg c),fun i _=>z.length<=i⟩
theorem ZF{P:Program}{w:World}{K:aa}{tg:Expr}(it:Addr)(z:Str)(t:Tok)(ty:String)(Br:ty="str_ascii_iterator"\/ty="str_iterator"):Ar P w K tg (ME z) [it] it (fun i h=>h.IsStrIter it ty z t i) where
 mem:=by simp
 obj:=fun i h st b hb=>by
  have e:b=it:=by simpa using hb
  subst e;obtain⟨o,e,c,d⟩:=st;exact⟨o,e,fun v z=>by rw[d]at z;cases z⟩
 keep:=fun i h h' st k=>by obtain⟨o,e,r⟩:=st;exact⟨o,k it (by simp) o e,r⟩
 item:=by
  intro X hP hw hK hc i ae s σ H E I hf st hg;subst hP hw hK;obtain⟨f0,f1,f2,f3,f4,f5⟩:=hf it (by simp);have hg:i<z.cps.size:=hg;have W:Walks X.prog X.w X.A it [it] [it] z.cps.size (SignAt z) (fun i h=>h.IsStrIter it ty z t i):=by
   rcases Br with rfl|rfl
   ·exact Walks.strAscii (I.ok.hd hc) it z t
   ·exact Walks.strWide (I.ok.hd hc) it z t
  refine W.item i s _ _ hg st fun v h' tk hv FL kk=>?_;obtain⟨c,u,Vu,rfl⟩:=hv;have I1:Inv X ae σ H {s with heap:=h',toks:=tk}:=I.turned (fun b o hb e=>kk b o (by simpa using hb) e) f0 f1 f3 f4 f5;obtain⟨o,e,c1,d⟩:=id FL;refine⟨_,rfl,B8 (s:={s with heap:=h',toks:=tk}) e c1 d (by rcases Br with rfl|rfl <;> decide) ⟨.str (sg c),H,I1,⟨u,rfl⟩,⟨rfl,c,by rw[lI];exact Vu,rfl⟩,FL,fun b hb=>(hf b hb).1⟩⟩
 done:=by
  intro X hP hw hK hc i ae s σ H E I hf st hg;subst hP hw hK;obtain⟨f0,f1,f2,f3,f4,f5⟩:=hf it (by simp);have hg:z.cps.size<=i:=hg;rcases Br with rfl|rfl
  ·exact wpAny_pyNext_ascii_end (I.ok.hd hc) st (by simpa using hg) fun h' eb=>⟨rfl,I.turned (t':=s.toks) (fun b o hb e=>eb b o hb e) f0 f1 f3 f4 f5⟩
  ·exact wpAny_pyNext_wide_end (I.ok.hd hc) st (by simpa using hg) fun h' eb=>⟨rfl,I.turned (t':=s.toks) (fun b o hb e=>eb b o hb e) f0 f1 f3 f4 f5⟩
 self:=fun _ _ _ _ _ st h=>by
  rcases Br with rfl|rfl
  ·exact wpAny_pyIter_striter_ascii st h
  ·exact wpAny_pyIter_striter_wide st h
section
variable{X:Cx}{tg:Expr}
def GP(tl:TE):TI:=fun σ H R=>tl σ H fun x H1=>∃z,x= .str z/\R (ME z) H1
theorem UE{l:Expr}{tl:TE}(hl:PE X l tl):PI X tg l (GP tl):=by
 intro ae s σ H R I h;refine d7 (hl ae s σ H _ I h) fun v s1⟨x,H1,I1,r1,q1⟩=>?_;obtain⟨z,rfl,q⟩:=q1;obtain⟨t,rfl⟩:=r1;have gM:∀ty,(ty="str_ascii_iterator"\/ty="str_iterator")->MG X ae σ tg R (.ref s1.heap.objs.size) {s1 with heap:=s1.heap.push {cls:=.type ty,data:=.fields #[.str z t,.int 0 0]}}:=fun ty Br=>by
  refine⟨s1.heap.objs.size,[s1.heap.objs.size],_,_,H1,rfl,I1.kept (t':=s1.toks) fun b o e=>Heap.get?_push_of_some _ e,ZF _ z t ty Br,⟨_,Heap.get?_push_size _ rfl,rfl,rfl⟩,fun b hb=>?_,q⟩;have e:b=s1.heap.objs.size:=by simpa using hb
  subst e;exact I1.Ax (ao _) (I1.cu.fresh (ao _))
 cases ha:z.cps.all (· < 128)
 ·exact wpAny_pyIter_wide ha (gM _ (.inr rfl))
 ·exact wpAny_pyIter_ascii ha (gM _ (.inl rfl))
end
theorem Tq{z:Str}{g:TG}{tc:TT}{te:TE}{D:Addr}{τ:St}{H:Hp}{Q:VK}(Pv:Nat->St->Hp->Prop)(h0:Pv 0 τ H)(hs:∀i c τ H,z.cps.toList[i]?=some c->Pv i τ H->g (.str (sg c)) τ H fun τ2 H3=>tc τ2 H3 fun b H4=>if b=true then te τ2 H4 fun y H5=>∃ys,H5 D=some (.lst ys)/\ys.length<sizeLine/\Pv (i+1) τ2 (aB H5 D (.lst (ys++[y])))else Pv (i+1) τ2 H4)(hd:∀τ H,Pv z.length τ H->Q (.ref D) H):uq (ME z) g tc te D τ H Q:=by
  refine⟨fun i m τ H=>m=z.length-i/\i<=z.length/\Pv i τ H,⟨z.length,by simp,di _,h0⟩,?_⟩;rintro i m τ H ⟨rfl,hi,p⟩;by_cases oH:i<z.length
  · refine .inr ⟨oH,Pv (i+1),fun τ' H' p'=>⟨z.length-(i+1),by omega,rfl,oH,p'⟩,fun x H' y=>?_⟩;obtain⟨e,c,hc,y⟩:=y;subst e y;exact hs i c τ H' hc p
  · have:i=z.length:=by omega
    subst this;exact .inl ⟨ao _,hd _ _ p⟩
theorem SS:∀{zs:List Str}{us:List Value},bP (zs.map V.str) us->∃l:List (Str×Tok),us=strValues l/\l.map (·.1)=zs
 |[],_,h=>by cases h;exact⟨[],rfl,rfl⟩
 |z::r,_,h=>by
  cases h with
  |cons h t=>
   obtain⟨tk,rfl⟩:=h;obtain⟨l,e1,e2⟩:=SS t;exact⟨(z,tk)::l,by rw[e1];rfl,by rw[aM,e2]⟩
section
variable{X:Cx}
def NU:R2:=fun x y H Q=>∃z w,x= .str z/\y= .str w/\Q (.bl (Txt.contains w z)) H
theorem UF:l0 X (compareOp .In) NU:=by intro ae s σ H x y v u Q I rx ry h;obtain⟨z,w,rfl,rfl,q⟩:=h;obtain⟨t,rfl⟩:=rx;obtain⟨t',rfl⟩:=ry;exact SB.contains ⟨.bl _,H,I,rfl,q⟩
def Ka:List V->Hp->VK->Prop:=fun xs H Q=>∃n:Int,xs=[.int n]/\n.natAbs.log2<1920/\Q (.str (Str.ofString (toString n))) H
theorem SV:kF X (.type "str") Ka:=by intro ae s σ H xs us Q I r h;obtain⟨n,rfl,hn,q⟩:=h;obtain⟨u,rfl,t,rfl⟩:=vals1 r;exact PySem.P.str_of_int hn ⟨.str _,H,I.tok _,⟨_,rfl⟩,q⟩
def J0:List V->Hp->VK->Prop:=fun xs H Q=>∃(z:Str)(n:Int),xs=[.str z]/\Gm z=some n/\z.length<=640/\Q (.int n) H
theorem YY:kF X (.type "int") J0:=by intro ae s σ H xs us Q I r h;obtain⟨z,n,rfl,hn,hz,q⟩:=h;obtain⟨u,rfl,t,rfl⟩:=vals1 r;exact PySem.W.KIN.call_text hn hz ⟨.int n,H,I.tok _,⟨_,rfl⟩,q⟩
end
theorem Iz{X:Cx}{x z:Str}{pos:Pos}(hg:Gl X x)(hm:∃t,X.mg x=some (.str z t))(hd:(x ==("__debug__":Str))=false:=by decide):PE X (.Name x pos) (tC (.str z)):=by obtain⟨t,hm⟩:=hm;exact uU hg hm ⟨t,rfl⟩ hd
section
variable{M:Model}{A:Around}{E:Value->Shared->Prop}{s:Shared}{B:Heap}{env:Env}{outer:List Env}{L e:Addr}{cls:Value}{dct:Option Addr}
end
section
variable{X:Cx}{ae:List (Addr×Obj)}{σ:St}{H H':Hp}{s:Shared}{h':Heap}
end
section
variable{P:Program}{w:World}{X:Cx}{scope:Scope}{cl:List (Str×Addr)}{N:List Str}{Ek:XH}{fp:List Addr}{s s':Shared}{H H':Hp}{ae:List (Addr×Obj)}{τ:St}
end
section
variable{P:Program}{w:World}{K:aa}{mg:Str->Option Value}{base:Heap}{N:List Str}{bF:Str}{sc:Scope}{f:Addr}{cd:Value}{A:Around}{outer:List Env}{s₀:Shared}{H₀:Hp}{E:XK}
end
end L2
namespace Sw
open PySem L2
def tT:Str:=Str.ofString "0123456789"
theorem YZ:tT.cps.toList=[48,49,50,51,52,53,54,55,56,57]:=by decide+kernel
theorem nF{c:Nat}:c∈tT.cps.toList↔48<=c/\c<=57:=by rw[YZ];simp only[ah,eG,or_false];omega
theorem Eo(c:Nat):Txt.contains tT (sg c)=decide (c∈tT.cps.toList):=StrLaws.found_one tT c
theorem in_str(x:Str)(c:Nat):Txt.contains x (sg c)=decide (c∈x.cps.toList):=StrLaws.found_one x c
theorem fU{x y:Str}(h:x.cps.toList=y.cps.toList):x=y:=by
 obtain⟨a⟩:=x;obtain⟨b⟩:=y;have:a=b:=by apply Array.toList_inj.mp;exact h
 rw[this]
theorem len_list(x:Str):x.cps.toList.length=x.length:=iX
theorem CN{c:Nat}{x:Str}:sg c=x↔x.cps.toList=[c]:=by refine⟨fun h=>by rw[<-h];rfl,fun h=>fU (by rw[h];rfl)⟩
theorem uV:(Str.ofString "0").cps.toList=[48]:=by decide+kernel
def kH(z:Str):Prop:=z.cps.toList[0]?=some 48/\1<z.length
def tP(z:Str):Prop:=∀c∈z.cps.toList,c∈tT.cps.toList
instance (z:Str):Decidable (kH z):=by unfold kH;exact inferInstance
instance (z:Str):Decidable (tP z):=by unfold tP;exact inferInstance
def eX(most:Nat)(z:Str):Option Int:=if 1<=z.length/\z.length<=most/\tP z/\¬kH z then some ((ja z.cps.toList:Nat):Int)else none
theorem Ba{most:Nat}{z:Str}(h:1<=z.length/\z.length<=most/\tP z/\¬kH z):eX most z=some ((ja z.cps.toList:Nat):Int):=if_pos h
theorem Df{most:Nat}{z:Str}(h:¬(1<=z.length/\z.length<=most/\tP z/\¬kH z)):eX most z=none:=if_neg h
theorem Au{z:Str}(h1:1<=z.length)(h2:z.length<=640)(h:tP z):Gm z=some ((ja z.cps.toList:Nat):Int):=by refine PySem.intText_digits (fun c hc=>nF.mp (h c hc)) (fun e=>?_) (by omega);have:=len_list z;rw[e]at this;simp at this;omega
theorem k8{most:Nat}{z:Str}{n:Int}(h:eX most z=some n):0<=n:=by
 unfold eX at h;split at h
 ·cases h;omega
 ·cases h
def eR(n:Int):Str:=Str.ofString (toString n)
def Lg(n:Int):Prop:=0<=n/\n<10000000000000
def N4(q:Q4):Prop:=Lg q.1/\Lg q.2.1/\Lg q.2.2.1/\Lg q.2.2.2
theorem empty_app(a:Str):Str.empty++a=a:=fU (by show((#[]:Array Nat)++a.cps).toList=a.cps.toList;simp)
theorem qV(a b:Str):(a++b).length=a.length+b.length:=by show(a.cps++b.cps).size=_;rw[Array.size_append];rfl
theorem join_eq(Il:Str)(zs:List Str):Txt.join Il zs=Str.join Il zs:=StrLaws.glued_eq_join Il zs
theorem Y0{zs:List Str}{m:Nat}(h:∀z∈zs,z.length<=m):(zs.map (·.length)).sum<=m*zs.length:=by
 induction zs with
 |nil=>exact di _
 |cons z r ih=>
  have h1:=h z (by simp);have h2:=ih fun y hy=>h y (af _ hy);rw[aM,List.sum_cons,bG,Nat.mul_add];omega
theorem Ep{Il:Str}{zs:List Str}{m:Nat}(h:∀z∈zs,z.length<=m)(hm:m<=2000)(hl:zs.length<=200)(hs:Il.length<=16):JoinOk Il zs=true:=by refine PyProof.Rows.joinOk_of_weight ?_ hs;have h1:=Y0 h;have:=Nat.mul_le_mul hm hl;omega
end Sw
namespace PySem
open Sem (wp)
open Builtin Builtin.Str Builtin.Int
namespace F
theorem AY:typeLookup (.type "list_reverseiterator") "__len__"=pure none:=by rw[typeLookup_type,builtinLookup_eq_fast];kernel_rfl
theorem Cc:typeLookup (.type "list_reverseiterator") "__length_hint__"=pure (some (.builtin "list_reverseiterator.__length_hint__")):=by rw[typeLookup_type,builtinLookup_eq_fast];kernel_rfl
end F
section
variable{prog:Program}{w:World}{A:Around}{E:Value->Shared->Prop}{s:Shared}{I:Addr}{fp wr:List Addr}{G:Array GenState->Array GenState->Prop}{n:Nat}{P:Nat->Value->Prop}{St:Nat->Shared->Prop}
theorem Yw{Q:List Value->Shared->Prop}(W:WalksS prog w A.in1 I fp wr G n P St)(hT:∀i s,St i s->s.TypeIs (.ref I) "list_reverseiterator")(Bq:St 0 s)(Js:∀b∈fp,b<s.heap.objs.size)(hI:I∈fp)(hQ:∀s' BS,Moved wr G s s'->ItemsOf P BS n->Q BS.toList s')(hn:n<=sizeLine):wpAny (model prog w) A (collect (.ref I)) Q E s:=by
  have nf:s.heap.objs.size∉fp:=fun hm=>dU _ (Js _ hm);have nI:s.heap.objs.size≠I:=fun e=>nf (e▸hI);unfold collect;refine wpAny_bind (wpAny_runValue (codeAny_builtin F.entry_proto_collect ?_));rw[Around.under_plainId F.plain_proto_collect _];refine(show wpAny (model prog w) A.in1 (newList [] >>=fun l=>again (.builtin "list.__iadd__" ⟨[l,.ref I],[]⟩)) _ _ s from ?_);refine wpAny_bind (wpAny_newObj_type (wpAny_pure ⟨plainId_quiet F.plain_list_iadd _,codeAny_builtin F.entry_list_iadd ?_⟩));rw[Around.under_plainId F.plain_list_iadd _];have EC:=W.frame 0 s (s.heap.push {cls:=.type "list",data:=.seq ([]:List Value).toArray}) s.toks Bq (ao _) fun b _ o e=>Heap.get?_push_of_some _ e;have g1:(s.heap.push {cls:=.type "list",data:=.seq ([]:List Value).toArray}).get? s.heap.objs.size=some {cls:=.type "list",data:=.seq ([]:List Value).toArray}:=Heap.get?_push_size _ rfl;have h1:Builtin.List.listSameRef (.ref s.heap.objs.size) (.ref I)=false:=by simp[Builtin.List.listSameRef,nI]
  refine(show wpAny (model prog w) A.in1 (Builtin.List.listExtendWith (.ref s.heap.objs.size) (.ref I) (.ref s.heap.objs.size)) _ _ _ from ?_);unfold Builtin.List.listExtendWith;refine wpAny_bind (wpAny_typeOf (hT 0 _ EC) ?_);rw[if_neg (by rw[h1];decide)];refine wpAny_bind (W.self 0 _ _ _ EC ?_);refine wpAny_bind (wpAny_holding ?_);unfold Builtin.List.listLengthHint;refine wpAny_bind (wpAny_specialOf (hT 0 _ EC) F.AY ?_);refine(show wpAny (model prog w) A.in1 (specialOf (Value.ref I) (Str.ofString "__length_hint__") >>=_) _ _ _ from ?_);refine wpAny_bind (wpAny_specialOf (hT 0 _ EC) F.Cc ?_);generalize P1:("list_reverseiterator.__length_hint__":String)=VU
  wp_delta
  rw[show splitId VU=some ("list_reverseiterator","__length_hint__")from by subst P1;decide+kernel];subst P1;refine wpAny_bind (wpAny_isInstance (b:=true) (hT 0 _ EC) (by rw[isSubtype_type];kernel_rfl) ?_);refine wpAny_pure ?_;rw[if_neg (by decide)];refine wpAny_pure ⟨plainId_quiet F.plain_extend_loop _,codeAny_extend_loopS W hn _ nf _ n 0 _ _ _ rfl (di _) EC g1 (ItemsOf.nil P) fun s' MP c' hm Vt Gx=>?_⟩;refine(show wpAny (model prog w) A (load s.heap.objs.size >>=_) _ _ s' from ?_);exact wpAny_bind (wpAny_load Vt (wpAny_pure (hQ s' MP (Moved.drop_new (o:={cls:=.type "list",data:=.seq ([]:List Value).toArray}) (tk:=s.toks) hm (ao _)) Gx)))
end
theorem ZG{prog:Program}{w:World}{A:Around}{E:Value->Shared->Prop}{s:Shared}{x:Str}{t:Tok}{Q:Value->Shared->Prop}{I D:Addr}{l:List (Str×Tok)}(hh:A.handled=none)(uD:s.heap.IsRevIter I D (((strValues l).toArray.size:Int)-1))(hl:s.heap.IsList D (strValues l).toArray)(Cg:D≠I)(cu:JoinOk x (l.map (·.1)).reverse=true)(hn:l.length<=sizeLine)(hq:∀s' t' k,Moved [I] (fun a b=>b=a) s s'->Q (.str (Txt.join x (l.map (·.1)).reverse) t') {s' with toks:=k}):
    wpAny (model prog w) A (call (.builtin "str.join") [.str x t,.ref I]) Q E s:=by
  have W:WalksS prog w A.in1.in1 I [I,D] [I] (fun a b=>b=a) (strValues l).toArray.size _ _:=(Walks.listRev (A:=A.in1.in1) hh I D Cg (strValues l).toArray).toS;have sz:(strValues l).toArray.size=l.length:=by simp[strValues]
  have hT:∀i(s:Shared),(i<=(strValues l).toArray.size/\s.heap.IsRevIter I D (((strValues l).toArray.size:Int)-1-(i:Int))/\s.heap.IsList D (strValues l).toArray)->s.TypeIs (.ref I) "list_reverseiterator":=fun i s h=>h.2.1.typeIs;have h0:(0:Nat)<=(strValues l).toArray.size/\s.heap.IsRevIter I D (((strValues l).toArray.size:Int)-1-((0:Nat):Int))/\s.heap.IsList D (strValues l).toArray:=⟨di _,by
    have:((strValues l).toArray.size:Int)-1-((0:Nat):Int)=((strValues l).toArray.size:Int)-1:=by omega
    rw[this];exact uD,hl⟩
  refine wpAny_call (codeAny_call_builtin F.slot_str_join.plain F.entry_str_join (F.slot_str_join.check _ _ _ _ _ _ _ _ (typeIs_str _ _ _) (F.args_str_join_2 _ _) ?_));rw[join_tree_other];refine wpAny_bind (wpAny_typeOf uD.typeIs ?_);refine(show wpAny (model prog w) A.in1 ((pyIter (.ref I)).tryCatch _ >>=fun it=>collect it >>=fun items=>joinTail x items) _ _ s from ?_);refine wpAny_bind (wpAny_tryCatch (W.of_in1.self 0 s _ _ h0 ?_));have fp:∀b∈[I,D],b<s.heap.objs.size:=fun b hb=>by
    rcases ah.mp hb with e|e
    · obtain⟨o,ho,_⟩:=uD;rw[e];exact Heap.lt_size ho
    · obtain⟨o,ho,_⟩:=hl;rw[aD.mp e];exact Heap.lt_size ho
  refine wpAny_bind (Yw W hT h0 fp (by simp) (fun s' BS hm Gx=>?_) (by rw[sz];exact hn));have ea:BS.toList=strValues l.reverse:=by
    apply List.ext_getElem?;intro i;obtain⟨a1,a2⟩:=Gx;by_cases hi:i<l.length
    · have P0:i<BS.size:=by rw[a1,sz];exact hi
      have e:=a2 i _ (vW P0);rw[lI,vW P0,<-e];simp only[strValues,aP,aj,List.getElem?_toArray,dO];rw[List.getElem?_reverse hi]
    · rw[lI,Array.getElem?_eq_none (by rw[a1,sz];omega),lZ (by simp[strValues];omega)]
  rw[ea];have Ch:JoinOk x (l.reverse.map (·.1))=true:=by rw[tK];exact cu
  have Qc:∀t' k,Q (.str (Txt.join x (l.reverse.map (·.1))) t') {s' with toks:=k}:=fun t' k=>by rw[tK];exact hq s' t' k hm
  generalize l.reverse=r at Ch Qc;unfold JoinOk at Ch;rw[jU]at Ch;have g:Gives (joinTail x (strValues r)) (joinMade x r):=by
    have g0:=gives_joinTail x r Ch;cases r with
    |nil=>exact g0
    |cons p r=>cases r with
      |nil=>exact g0
      |cons q r'=>exact g0
  exact g prog w A (wants Q E) s' (post_join r ⟨joinFit_length Ch,Qc⟩)
end PySem
namespace L2
open PySem PySem.Spec PyProof.Rows
def J8:V->List V->Hp->VK->Prop:=fun x vs H Q=>∃(z y:Str),x= .str z/\vs=[.str y]/\(y.length ==0)=false/\z.length<=sizeLine/\
 ∀l,H l=none->Q (.ref l) (aB H l (.tup [.str (Txt.partition z y).1,.str (Txt.partition z y).2.1,.str (Txt.partition z y).2.2]))
def zxd:V->List V->Hp->VK->Prop:=fun x vs H Q=>∃(z y:Str),x= .str z/\vs=[.str y]/\Q (.bl (Txt.startswith z y)) H
def zyy:V->List V->Hp->VK->Prop:=fun x vs H Q=>∃(z:Str)(i:Int),x= .str z/\vs=[.int i]/\PadOk i=true/\Q (.str (Txt.zfill z i)) H
section
variable{X:Cx}
theorem zxe:HQ X "str.partition" J8:=by
 intro ae s σ H x vs v us Q I rx rv h;obtain⟨z,y,rfl,rfl,hy,hz,q⟩:=h;obtain⟨t,rfl⟩:=rx;obtain⟨w,rfl,rw⟩:=rv.one;obtain⟨u,rfl⟩:=rw;refine call_meets F.slot_str_partition (typeIs_str _ _ _) F.entry_str_partition (F.args_str_partition_2 _ _) (meets_str_partition z y t u hy hz) ?_;have gM:∀(a b c:Str)(ta tb tc:Tok)(tk:Nat),Txt.partition z y=(a,b,c)->EP X ae σ Q (.ref s.heap.objs.size) {s with toks:=tk,heap:=s.heap.push {cls:=.type "tuple",data:=.seq [.str a ta,.str b tb,.str c tc].toArray}}:=fun a b c ta tb tc tk e=>by rw[e]at q;exact⟨.ref s.heap.objs.size,_,I.laid (o:=.tup [.str a,.str b,.str c]) (fun b o h=>Heap.get?_push_of_some _ h) (ao _) ⟨by show 3<=sizeLine;decide,[.str a ta,.str b tb,.str c tc],.cons ⟨ta,rfl⟩ (.cons ⟨tb,rfl⟩ (.cons ⟨tc,rfl⟩ .nil)),_,Heap.get?_push_size _ rfl,rfl,_,rfl⟩,rfl,q _ I.fresh⟩
 unfold Txt.partition at gM;cases ho:Builtin.Str.occurrences z y 0 z.length 1 with
 |nil=>rw[ho]at gM;exact gM _ _ _ _ _ _ _ rfl
 |cons i r=>rw[ho]at gM;exact gM _ _ _ _ _ _ _ rfl
theorem Y3:HQ X "str.startswith" zxd:=by intro ae s σ H x vs v us Q I rx rv h;obtain⟨z,y,rfl,rfl,q⟩:=h;obtain⟨t,rfl⟩:=rx;obtain⟨w,rfl,rw⟩:=rv.one;obtain⟨u,rfl⟩:=rw;exact SC.startswith ⟨.bl _,H,I,rfl,q⟩
theorem ZH:HQ X "str.zfill" zyy:=by intro ae s σ H x vs v us Q I rx rv h;obtain⟨z,i,rfl,rfl,hp,q⟩:=h;obtain⟨t,rfl⟩:=rx;obtain⟨w,rfl,rw⟩:=rv.one;obtain⟨u,rfl⟩:=rw;exact SC.zfill hp fun t' k=>⟨.str _,H,I.tok _,⟨_,rfl⟩,q⟩
def Tr(K:aa)(to:TE)(ta:TA):TE:=fun σ H Q=>to σ H fun x H1=>∃z,x= .str z/\ta σ H1 fun vs H2=>∃(a:Addr)(zs:List Str),vs=[.ref a]/\H2 a=some (.lst (zs.map V.str))/\JoinOk z zs.reverse=true/\Q (.str (Txt.join z zs.reverse)) H2
theorem Yx(K:aa){o l:Expr}{to:TE}{ta:TA}{fP fQ p pos:Pos}(hc:X.calm=true)(hg:Gl X "reversed")(hm:X.mg "reversed"=none)(ho:PE X o to)(ha:PA X [l] ta)(nH:attributeBase o "join" X.env (eval o X.env)=eval o X.env:=by rfl)(Cb:((backTo fQ (starEach [.Call (.Name "reversed" p) [l] [] pos] X.env)).all (fun x=>!x.1) && (backToKw fQ (keywordEach [] X.env)).all (fun x=>x.1.isSome)
      && decide ([Expr.Call (.Name "reversed" p) [l] [] pos].length+([]:List Keyword).length+(if([]:List Keyword).isEmpty then 0 else 1)<30))=true:=by rfl)(nJ:(fP.endLine ==fQ.line)=true:=by rfl)(hs:starEach [.Call (.Name "reversed" p) [l] [] pos] X.env=[(false,eval (.Call (.Name "reversed" p) [l] [] pos) X.env)]:=by rfl)(DA:starEach [l] X.env=[(false,eval l X.env)]:=by rfl):
    PE X (.Call (.Attribute o "join" fP) [.Call (.Name "reversed" p) [l] [] pos] [] fQ) (Tr K to ta):=by
  intro ae s σ H Q I h;refine wpAny_Call_method_late nH Cb nJ rfl (d7 (ho ae s σ H _ I h) fun v s1⟨x,H1,I1,r1,q1⟩=>?_);obtain⟨z,rfl,q1⟩:=q1;obtain⟨t,rfl⟩:=r1;refine⟨"str","str.join",gH,PySem.F.slot_str_join,PySem.F.type_str_join,typeIs_str _ _ _,(fun a e=>by cases e),?_⟩;rw[hs];refine Calls.callWith_builtin rfl (Calls.evalArgs_plain (Calls.spliced_cons ?_));refine Call_ (HE I1 hg hm boot_reversed (e7 (d7 (ha pos ae s1 σ H1 _ I1 q1) fun us s2⟨vs,H2,I2,r2,q2⟩=>?_) DA rfl));obtain⟨a,zs,rfl,hl,ok,q⟩:=q2;obtain⟨u,rfl,r⟩:=bP.one r2;cases r
  obtain⟨lz,dJ,n,r,hn,e⟩:=I2.Cq hl;obtain⟨ps,rfl,rfl⟩:=SS r;have il:s2.heap.IsList a (strValues ps).toArray:=⟨_,e,rfl,_,rfl⟩;refine call_reversed_list il ?_;refine wpAny_pure ?_;have uD:(s2.heap.push (revObj a (((strValues ps).toArray.size:Int)-1))).IsRevIter s2.heap.objs.size a (((strValues ps).toArray.size:Int)-1):=⟨_,Heap.get?_push_size _ rfl,rfl,rfl⟩;have Cg:a≠s2.heap.objs.size:=fun z=>by obtain⟨o,ho,_⟩:=il;exact absurd z (aJ (Heap.lt_size ho))
  refine ZG (I2.ok.hd hc) uD (il.at fun o e=>Heap.get?_push_of_some _ e) Cg ok (by simpa using lz) fun s' t' k m=>?_;have hk:∀b o,s2.heap.get? b=some o->s'.heap.get? b=some o:=fun b o eb=>m.heap b o (fun z=>by have:=Heap.lt_size eb;rw[aD.mp z]at this;exact dU _ this) (Heap.get?_push_of_some _ eb)
  have es:({s' with toks:=k}:Shared)={s2 with heap:=s'.heap,toks:=k}:=by obtain⟨h',g',d',t',o'⟩:=s';have e1:=m.gens;have e2:=m.drawn;have e3:=m.os;simp only at e1 e2 e3;subst e1 e2 e3;rfl
  rw[es];exact⟨.str _,H2,I2.kept hk,⟨_,rfl⟩,q⟩
end
section
variable{X:Cx}
end
end L2
namespace Sw
open PySem L2 PyProof.Rows
theorem zxf(a b:String):Str.ofString (a++b)=Str.ofString a++Str.ofString b:=fU (by have e:(Str.ofString a++Str.ofString b).cps=(Str.ofString a).cps++(Str.ofString b).cps:=rfl;rw[e,Bg,signs_ofString,signs_ofString,signs_ofString,String.toList_append,aC])
theorem F3(a b:Str):(a++b).cps.toList=a.cps.toList++b.cps.toList:=by have e:(a++b).cps=a.cps++b.cps:=rfl;rw[e,Bg]
theorem OP(m:Nat):(eR (m:Int)).cps.toList=(Nat.toDigits 10 m).map Char.toNat:=PySem.W.KIN.signs_num m
theorem nV{m:Nat}(h:0<m):eR (-(m:Int))=Str.ofString "-" ++eR (m:Int):=by obtain⟨k,rfl⟩:∃k,m=k+1:=⟨m-1,by omega⟩;unfold eR;rw[<-zxf];rfl
theorem ZI(m:Nat):tP (eR (m:Int)):=fun c hc=>by rw[OP]at hc;obtain⟨ch,yr,rfl⟩:=aZ.mp hc;have r:=Nat.isDigit_of_mem_toDigits (by decide) (by decide) yr;refine nF.mpr ?_;simp only[Char.isDigit,eF,decide_eq_true_eq]at r;obtain⟨r1,r2⟩:=r;exact⟨r1,r2⟩
theorem T6(m:Nat):NumText.AllDigits (eR (m:Int)).cps.toList:=fun c hc=>nF.mp (ZI m c hc)
theorem T7(m:Nat):NumText.digitsVal (eR (m:Int)).cps.toList=m:=by rw[OP];exact PySem.W.KIN.val_back m
theorem Y4{c:Nat}(h:c<=57):(vX c).toNat=c:=by
 have:∀d:Fin 58,(vX d.val).toNat=d.val:=by decide
 exact this ⟨c,by omega⟩
theorem OQ {k:Nat} {z:Str} {n:Int} (h:eX k z=some n):eR n=z:=by
 unfold eX at h
 split at h
 ·rename_i g
  obtain ⟨g1,g2,g3,g4⟩:=g
  cases h
  refine fU ?_
  rw [OP]
  have al:NumText.AllDigits z.cps.toList:=fun c hc=>nF.mp (g3 c hc)
  have hl:=len_list z
  rw [NumText.toDigits_digitsVal (z.length-1) z.cps.toList (by omega) al ?_,qS]
  ·have:∀ c∈z.cps.toList,(Char.toNat ∘ vX) c=c:=fun c hc=>by
    have:=(al c hc).2
    show (vX c).toNat=c
    exact Y4 (by omega)
   rw [fZ this]
   simp
  ·by_cases h1:z.length = 1
   ·exact .inl (by omega)
   ·refine .inr ?_
    unfold kH at g4
    generalize z.cps.toList=cs at *
    match cs,hl with
    | c :: r,hl =>
     refine ⟨c,r,rfl,?_⟩
     have:=(al c (by simp)).1
     by_cases e:c = 48
     ·subst e
      exact absurd ⟨rfl,by omega⟩ g4
     ·omega
    | [],hl=>simp at hl; omega
 ·cases h
theorem T8{a b:Nat}(h:eR (a:Int)=eR (b:Int)):a=b:=by rw[<-T7 a,h,T7]
def vE(l:List Nat):Str:=⟨l.toArray⟩
theorem OR(l:List Nat):(vE l).cps.toList=l:=rfl
theorem OS(z:Str):vE z.cps.toList=z:=fU rfl
def aY:Str:=Str.ofString "/"
theorem ZJ:aY=sg 47:=by decide+kernel
theorem OA:aY.cps.toList=[47]:=by decide+kernel
theorem L5:(Str.ofString "-").cps.toList=[45]:=by decide+kernel
theorem O8(x:Str):(Txt.partition x aY=(x,Str.empty,Str.empty)/\47∉x.cps.toList)\/∃a b:List Nat,x.cps.toList=a++47::b/\47∉a/\Txt.partition x aY=(vE a,aY,vE b):=by
 rw[ZJ];rcases partition_whole x (sg 47)with⟨h,hn⟩ |⟨i,h,hi,hn⟩
 ·refine .inl ⟨h,fun hm=>?_⟩;obtain⟨i,hi⟩:=(mem_iff_at x 47).mp hm;exact hn i hi
 ·have hx:x.cps.toList[i]?=some 47:=(StrLaws.subAt_one x 47 i).mp hi;have hl:i<x.cps.toList.length:=(aE.mp hx).1;refine .inr ⟨x.cps.toList.take i,x.cps.toList.drop (i+1),?_,fun hm=>?_,?_⟩
  ·have:=List.take_append_drop i x.cps.toList;rw[ww hl]at this;rw[(aE.mp hx).2]at this;exact this.symm
  ·obtain⟨k,hk⟩:=List.mem_iff_getElem?.mp hm;have kl:k<i:=by have:=(aE.mp hk).1;rw[eZ]at this;omega
   rw[xF kl]at hk;exact hn k kl ((StrLaws.subAt_one x 47 k).mpr hk)
  ·rw[h];have e1:Builtin.Str.strSub x 0 i=vE (x.cps.toList.take i):=fU (by show(x.cps.extract 0 i).toList=_;rw[Af];simp[vE,wz])
   have e2:Builtin.Str.strSub x (i+(sg 47).length) x.length=vE (x.cps.toList.drop (i+1)):=fU (by show(x.cps.extract (i+1) x.cps.size).toList=_;rw[Af];simp only[vE,wz];exact b6 (by rw[iB,iX];omega))
   rw[e1,e2]
theorem Tt{c:Nat}:∀{a a' b b':List Nat},a++c::b=a'++c::b'->c∉a->c∉a'->a=a'/\b=b'
 |[],[],b,b',h,_,_=>by
  injection h with _ h
  exact⟨rfl,h⟩
 |[],x::a',b,b',h,_,n=>by
  injection h with h _
  exact absurd (by rw[h];simp) n
 |x::a,[],b,b',h,n,_=>by
  injection h with h _
  exact absurd (by rw[h];simp) n
 |x::a,y::a',b,b',h,n,n'=>by
  injection h with h1 h2
  obtain⟨e1,e2⟩:=Tt h2 (fun z=>n (af _ z)) fun z=>n' (af _ z);exact⟨by rw[h1,e1],e2⟩
def Below(h:Str):Prop:=h.cps.toList[0]?=some 45
instance (h:Str):Decidable (Below h):=by unfold Below;exact inferInstance
def kN(h:Str):Str:=if Below h then vE (h.cps.toList.drop 1)else h
def kO(z:Str):Option (Int×Int):=
 match eX 40 (kN (Txt.partition z aY).1),(if(Txt.partition z aY).2.1=aY then eX 40 (Txt.partition z aY).2.2 else some 1)with
 |some n,some b=>if(Below (Txt.partition z aY).1/\n=0)\/((Txt.partition z aY).2.1=aY/\(b<2\/dv n b≠1))then none else some (if Below (Txt.partition z aY).1 then 0-n else n,b)
 |_,_=>none
def l6(q:Int×Int):Str:=if q.2=1 then eR q.1 else eR q.1++aY++eR q.2
theorem Tu(n:Int):47∉(eR n).cps.toList:=by
 have g:∀m:Nat,47∉(eR (m:Int)).cps.toList:=fun m h=>by have:=(T6 m 47 h).1;omega
 rcases lK n 0 with h|h
 ·obtain⟨m,hm⟩:=br (show 0<=-n by omega);have e:n= -(m:Int):=by omega
  rw[e,nV (by omega),F3,L5];simp only[fT,fD,ah];rintro(h|h)
  ·omega
  ·exact g m h
 ·obtain⟨m,hm⟩:=br h;rw[hm];exact g m
theorem lu{n:Int}:Below (eR n)↔n<0:=by
 rcases lK n 0 with h|h
 ·obtain⟨m,hm⟩:=br (show 0<=-n by omega);have e:n= -(m:Int):=by omega
  unfold Below;rw[e,nV (by omega),F3,L5];simp;omega
 ·obtain⟨m,rfl⟩:=br h;refine⟨fun q=>?_,fun q=>absurd q (by omega)⟩;have:=(T6 m 45 (fL q)).1;omega
theorem zxg(n:Int):kN (eR n)=eR (n.natAbs:Int):=by
 unfold kN;rcases lK n 0 with h|h
 ·rw[if_pos (lu.mpr h)];obtain⟨m,hm⟩:=br (show 0<=-n by omega);have e:n= -(m:Int):=by omega
  have e2:n.natAbs=m:=by omega
  rw[e2,e,nV (by omega),F3,L5];exact OS _
 ·rw[if_neg (fun q=>by have:=lu.mp q;omega)];have:(n.natAbs:Int)=n:=by omega
  rw[this]
theorem Y5(n d:Int):Txt.partition (eR n++aY++eR d) aY=(eR n,aY,eR d):=by
 have e:(eR n++aY++eR d).cps.toList=(eR n).cps.toList++47::(eR d).cps.toList:=by rw[F3,F3,OA];simp
 rcases O8 (eR n++aY++eR d)with⟨_,h⟩ |⟨a,b,e2,na,h⟩
 ·exact absurd (by rw[e];simp) h
 ·rw[e]at e2;obtain⟨e3,e4⟩:=Tt e2 (Tu n) na;rw[h,<-e3,<-e4,OS,OS]
theorem kL:¬(Str.empty=aY):=by intro h;have:=congrArg (·.cps.toList) h;simp only[OA]at this;exact absurd this (by decide)
theorem ZK{h:Str}{n:Int}(hn:eX 40 (kN h)=some n):(Below h/\n=0)\/(¬(Below h/\n=0)/\eR (if Below h then -n else n)=h):=by
 have e:=OQ hn;have n0:=k8 hn;unfold kN at e;by_cases b:Below h
 ·rw[if_pos b]at e;by_cases z:n=0
  ·exact .inl ⟨b,z⟩
  ·refine .inr ⟨fun q=>z q.2,?_⟩;rw[if_pos b];obtain⟨m,rfl⟩:=br n0;rw[nV (by omega),e];refine fU ?_;rw[F3,L5,OR];unfold Below at b;generalize h.cps.toList=l at b
   match l,b with
   |c::r,b=>
    have:c=45:=by simpa using b
    rw[this];rfl
 ·rw[if_neg b]at e;exact .inr ⟨fun q=>b q.1,by rw[if_neg b];exact e⟩
theorem zyz(n d:Int):dv (n.natAbs:Int) d=dv n d:=by
 rcases Int.natAbs_eq n with q|q
 ·rw[<-q]
 ·rw[show(n.natAbs:Int)= -n by omega,Mj]
theorem Fd{p:Prop}[Decidable p](n d:Int):dv (if p then -n else n) d=dv n d:=by
 split
 ·rw[Mj]
 ·rfl
theorem E7{n d:Int}(h1:1<=d)(h:dv n d=1):Fr n d:=⟨by omega,h⟩
theorem Ay{z:Str}{n b:Int}(hn:eX 40 (kN (Txt.partition z aY).1)=some n)(hb:(if(Txt.partition z aY).2.1=aY then eX 40 (Txt.partition z aY).2.2 else some 1)=some b)(b0:b≠0):
    kO z=if l6 (rN (if Below (Txt.partition z aY).1 then -n else n) b,rD (if Below (Txt.partition z aY).1 then -n else n) b)=z then some (rN (if Below (Txt.partition z aY).1 then -n else n) b,rD (if Below (Txt.partition z aY).1 then -n else n) b)else none:=by
  have tb:=ZK hn;have n0:=k8 hn;unfold kO;rw[hn,hb];simp only;rcases O8 z with⟨e,hz⟩ |⟨a,b',ez,na,e⟩
  · rw[e]at tb hb⊢;simp only at tb hb⊢;rw[if_neg kL]at hb;cases hb
    have f1:Fr (if Below z then -n else n) 1:=E7 (by decide) (by rw[Fd];unfold dv;simp);obtain⟨e1,e2⟩:=Td (t:=if Below z then -n else n) (b:=1) (by decide) f1 (by omega);rw[e1,e2];unfold l6;simp only[if_true];rcases tb with⟨q1,q2⟩ |⟨q1,q2⟩
    · rw[if_pos (.inl ⟨q1,q2⟩),if_neg];intro q;rw[<-q]at q1;have:=lu.mp q1;subst q2;split at this <;> omega
    · rw[if_neg (fun q=>q.elim q1 fun q=>kL q.1),if_pos q2];congr 2;split <;> omega
  · rw[e]at tb hb⊢;simp only at tb hb⊢;rw[if_pos trivial]at hb;have hw:=OQ hb;have bn:=k8 hb;by_cases c:(Below (vE a)/\n=0)\/(b<2\/dv n b≠1)
    · rw[if_pos (c.imp id fun q=>⟨trivial,q⟩),if_neg];intro q;generalize ht:(if Below (vE a)then -n else n)=tp at q;have fr:=vF (t:=tp) (b:=b) b0;generalize rN tp b=rn at q fr;generalize rD tp b=rd at q fr;have fd:0<rd:=fr.1;have fl:dv rn rd=1:=fr.low;unfold l6 at q;simp only at q;by_cases r1:rd=1
      · rw[if_pos r1]at q;exact Tu rn (by rw[q,ez];simp)
      · rw[if_neg r1]at q;have e3:=Y5 rn rd;rw[q,e]at e3;injection e3 with e3 e4
        injection e4 with _ e4
        rw[e3]at c;rw[e]at hn;simp only at hn;rw[e3,zxg]at hn;rw[<-hw]at e4;have en:=OQ hn;obtain⟨m,rfl⟩:=br n0;obtain⟨k,rfl⟩:=br bn;obtain⟨r,rfl⟩:=br (lJ fd);have ek:k=r:=T8 e4;have em:m=rn.natAbs:=T8 en;rcases c with⟨c1,c2⟩ |c|c
        · have:=lu.mp c1;omega
        · omega
        · refine c ?_;rw[em,ek,zyz];exact fl
    · have c':¬(Below (vE a)/\n=0)/\¬b<2/\dv n b=1:=⟨fun q=>c (.inl q),fun q=>c (.inr (.inl q)),Classical.byContradiction fun q=>c (.inr (.inr q))⟩;obtain⟨c1,c2,c3⟩:=c';rw[if_neg (fun q=>q.elim c1 fun q=>q.2.elim c2 fun q=>q c3)];have tb:eR (if Below (vE a)then -n else n)=vE a:=by
        rcases tb with q|q
        · exact absurd q c1
        · exact q.2
      have f1:Fr (if Below (vE a)then -n else n) b:=E7 (by omega) (by rw[Fd];exact c3);obtain⟨e1,e2⟩:=Td (t:=if Below (vE a)then -n else n) (b:=b) b0 f1 (g9 _ _);have key:l6 (if Below (vE a)then -n else n,b)=z:=by unfold l6;simp only;rw[if_neg (show ¬b=1 by omega),tb,hw];refine fU ?_;rw[F3,F3,OA,ez];simp[vE]
      rw[e1,e2,if_pos key];congr 2;split <;> omega
theorem yk{z:Str}(h:eX 40 (kN (Txt.partition z aY).1)=none):kO z=none:=by unfold kO;rw[h]
theorem ym{z:Str}(h:(if(Txt.partition z aY).2.1=aY then eX 40 (Txt.partition z aY).2.2 else some 1)=none):kO z=none:=by
 unfold kO;rw[h];split
 ·rename_i q;cases q
 ·rfl
theorem yn{z:Str}(hs:(Txt.partition z aY).2.1=aY)(h:eX 40 (Txt.partition z aY).2.2=some 0):kO z=none:=by
 unfold kO;rw[if_pos hs,h];cases eX 40 (kN (Txt.partition z aY).1)with
 |none=>rfl
 |some n=>simp only;rw[if_pos (.inr ⟨hs,.inl (by decide)⟩)]
theorem vL(z:Str):Txt.startswith z (Str.ofString "-")=decide (Below z):=by
 have e:Str.ofString "-"=⟨#[45]⟩:=by decide+kernel
 have h:=StrLaws.subAt_one z 45 0;rw[e];unfold Txt.startswith Below;by_cases c:z.cps.toList[0]?=some 45
 ·rw[decide_eq_true c];obtain⟨h1,h2⟩:=h.mpr c;rw[h2,decide_eq_true h1];rfl
 ·rw[decide_eq_false c];cases q:(decide (0+(⟨#[45]⟩:Str).length<=z.length) && Builtin.Str.subAt z ⟨#[45]⟩ 0)with
  |false=>rfl
  |true=>
   rw[eF,decide_eq_true_eq]at q;exact absurd (h.mp q) c
theorem A2(z:Str):Txt.slice z (some 1) none=vE (z.cps.toList.drop 1):=by
 by_cases h:1<=z.length
 ·rw[slice_from_eq (b:=(z.length:Int)) (by decide) (by omega) rfl];refine fU ?_;show(z.cps.toList.drop 1).take _=_;exact b6 (by rw[iB,len_list];omega)
 ·rw[slice_beyond (by omega)];refine fU ?_;have:z.cps.toList.length<=1:=by rw[len_list];omega
  rw[OR,List.drop_of_length_le this];rfl
theorem Ed(z:Str):(kN z).length<=z.length:=by
 unfold kN;split
 ·rw[<-len_list,OR,iB,len_list];omega
 ·exact ao _
theorem CF(z y:Str):(Txt.partition z y).1.length<=z.length/\(Txt.partition z y).2.1.length<=z.length/\(Txt.partition z y).2.2.length<=z.length:=by have e:=congrArg PySem.Str.length (StrLaws.partition_sum z y);rw[qV,qV]at e;omega
theorem CG(z:Str):(Txt.partition z aY).2.1=aY\/(Txt.partition z aY).2.1=Str.empty:=by
 rcases O8 z with⟨e,_⟩ |⟨_,_,_,_,e⟩
 ·rw[e];exact .inr rfl
 ·rw[e];exact .inl rfl
theorem SW:∀(n:Nat)(cs:List Nat),cs.length=n->NumText.AllDigits cs->NumText.digitsVal cs<10^n
 |0,cs,h,_=>by rw[x6.mp h];decide
 |n+1,cs,hl,h=>by
  have Cg:cs≠[]:=by intro e;rw[e]at hl;simp at hl
  have e:=List.dropLast_concat_getLast Cg;generalize cs.dropLast=VW at e;generalize cs.getLast Cg=c at e;subst e;have ih:=SW n VW (by rw[bY,Al]at hl;omega) fun d hd=>h d (fK _ hd);have hc:=(h c (bq _ (aD.mpr rfl))).2;rw[NumText.digitsVal_snoc,An];omega
theorem z9{k:Nat}{z:Str}{n:Int}(h:eX k z=some n):n<10^k:=by
 unfold eX at h;split at h
 ·rename_i g
  cases h;have h1:=SW z.length z.cps.toList (len_list z) fun c hc=>nF.mp (g.2.2.1 c hc)
  have h2:10^z.length<=10^k:=iN (by decide) g.2.1;have h3:NumText.digitsVal z.cps.toList<10^k:=av h1 h2
  exact_mod_cast h3
 ·cases h
end Sw
namespace L2
open PySem PySem.Spec PyProof.Rows
theorem jR{X:Cx}{i:Nat}{x:Str}{e:Expr}{te:TE}{nY pos:Pos}(hN:X.N.Nodup)(hi:X.N[i]?=some x)(he:PE X e te)(hx:Loc X.env.scope x:=by first|exact Or.inl rfl|exact Or.inr rfl)(hs:swapsWith e (some (.Name x nY)) pos.line X.env=pure false:=by rfl)(hf:X.fn x=true\/X.env.scope.names.lookup x=some .local:=by first|exact .inl rfl|exact .inr rfl|assumption):
    PS X (.Assign [.Name x nY] e pos) (yX te (rS i)):=zya hN hi hx he hs hf
end L2
namespace Sw
open PySem L2 PyProof.Rows
abbrev dg(n:Nat):List Char:=Nat.toDigits 10 n
end Sw
namespace L2
open PySem PySem.Spec PyProof.Rows
section
variable{X:Cx}
theorem Pf{o e:Expr}{es:List Expr}{to:TE}{t:TA}{name:Str}{fP fQ:Pos}{T id:String}{r:V->List V->Hp->VK->Prop}(K:aa)(hK:X.K=K)(pa:PlainAttrs T)(slot:Slot T name id)(Br:typeOf (.builtin id)=pure (.type "method_descriptor"))(hm:HQ X id r)(ho:PE X o to)(ha:PA X (e::es) t)(nH:attributeBase o name X.env (eval o X.env)=eval o X.env:=by rfl)(Cb:((backTo fQ (starEach (e::es) X.env)).all (fun x=>!x.1) && (backToKw fQ (keywordEach [] X.env)).all (fun x=>x.1.isSome)
      && decide ((e::es).length+([]:List Keyword).length+(if([]:List Keyword).isEmpty then 0 else 1)<30))=true:=by rfl)(nJ:(fP.endLine ==fQ.line)=true:=by rfl)(hs:starEach (e::es) X.env=(false,eval e X.env)::starEach es X.env:=by rfl)(hplain:(backTo fQ (starEach es X.env)).any (·.1)=false:=by rfl):
    PE X (.Call (.Attribute o name fP) (e::es) [] fQ) (KI K T r to t):=hK▸pS pa slot Br hm ho ha nH Cb nJ hs hplain
end
end L2
namespace Sw
open PySem L2 PyProof.Rows
section
variable{n:Nat}{M:Int}{a c:Nat}{rm:Int->Option Int}{qs:List Q4}
end
end Sw
namespace L2
open PySem PySem.Spec PyProof.Rows
section
variable{X:Cx}
end
end L2
namespace L2
open PySem PySem.Spec PyProof.Rows PySem.MeetsSeq
section
variable{X:Cx}
end
end L2
namespace L2
open PySem PySem.Spec PyProof.Rows
section
variable{X:Cx}
end
section
variable{X:Cx}
end
structure DS(nm:Nm):Prop where
 nd:(nm.map (·.1)).Nodup
 sh:∀x s,dw nm x=some s->1<=s/\s<=1000000
 ok:∀y∈nm.map (·.1),PyData.strOk y=true
theorem DS.nil:DS []:=⟨.nil,fun x s e=>by(cases e),fun y h=>absurd h eG⟩
theorem DS.put{nm:Nm}(h:DS nm){x:Str}{s:Int}(hx:dw nm x=none)(s0:1<=s)(s1:s<=1000000)(ok:PyData.strOk x=true):DS (nm++[(x,s)]):=by
 refine⟨?_,fun y t e=>?_,fun y hy=>?_⟩
 ·rw[aC];exact bS.mpr ⟨h.nd,by simp,fun y hy z hz=>by
   have:z=x:=by simpa using hz
   rw[this];intro e;exact(Sw.ji.mp hx) (e▸hy)⟩
 ·rw[K0 hx]at e;split at e
  ·cases e;exact⟨s0,s1⟩
  ·exact h.sh y t e
 ·rw[aC]at hy;rcases aA.mp hy with z|z
  ·exact h.ok y z
  ·have:y=x:=by simpa using z
   rw[this];exact ok
inductive gJ|st (nm:Nm) (tg gs:Str->Option Rat) (ck:Rat) (ch:V) (N:Nat)
 |rd (nm:Nm) (q:List Str) (rs:Nm) (tu:Option Str) (ch:V)
def gJ.nm:gJ->Nm
 | .st nm _ _ _ _ _=>nm
 | .rd nm _ _ _ _=>nm
def gJ.sz:gJ->Nat
 | .st _ _ _ _ _ N=>N
 | .rd nm _ _ _ _=>nm.length
def gJ.Ok(m:Int):gJ->Prop
 | .st nm tg gs _ _ _=>DS nm/\∀x,dw nm x≠none->∃t g,tg x=some t/\gs x=some g
 | .rd nm q rs tu _=>DS nm/\Sw.RI m nm q rs tu
def gJ.put(x:Str)(s:Int):gJ->gJ
 | .st nm tg gs ck ch N=>.st (nm++[(x,s)]) (vH tg x 0) (vH gs x 0) ck ch (N+3)
 | .rd nm q rs tu ch=>.rd (nm++[(x,s)]) (q++[x]) (rs++[(x,0)]) tu ch
def gJ.new(Hh:Bool):gJ:=if Hh then .rd [] [] [] none .non else .st [] (fun _=>none) (fun _=>none) 0 .non 0
theorem gJ.GW{x:Str}{s:Int}(c:gJ):(c.put x s).nm=c.nm++[(x,s)]:=by cases c <;> rfl
theorem gJ.Cw(b:Bool):(gJ.new b).nm=[]:=by cases b <;> rfl
def Ag(cS cR cM:Addr)(H:Hp)(a:k9)(m:Int):gJ->Prop
 | .st nm tg gs ck ch N=>Sx cS cM H a m nm tg gs ck ch N
 | .rd nm q rs tu ch=>Rx cR cM H a m nm q rs tu ch
def jY(a:k9):List Addr:=[a.p,a.pm,a.ps,a.pt,a.pg]
theorem gz{a:k9}{b:Addr}:b∈jY a↔b=a.p\/b=a.pm\/b=a.ps\/b=a.pt\/b=a.pg:=by unfold jY;simp
section
variable{cS cR cM:Addr}{H H':Hp}{a:k9}{m:Int}{c:gJ}
theorem Ag.keep(h:Ag cS cR cM H a m c)(e:∀b o,(b∈jY a\/∃xs,H b=some (.tup xs))->H b=some o->H' b=some o):Ag cS cR cM H' a m c:=by
 have e1:∀b o,(b=a.p\/b=a.pm\/b=a.ps\/b=a.pt\/b=a.pg\/∃xs,H b=some (.tup xs))->H b=some o->H' b=some o:=fun b o hb=>e b o (by
  rcases hb with z|z|z|z|z|z
  ·exact .inl (gz.mpr (.inl z))
  ·exact .inl (gz.mpr (.inr (.inl z)))
  ·exact .inl (gz.mpr (.inr (.inr (.inl z))))
  ·exact .inl (gz.mpr (.inr (.inr (.inr (.inl z)))))
  ·exact .inl (gz.mpr (.inr (.inr (.inr (.inr z)))))
  ·exact .inr z)
 cases c with
 |st nm tg gs ck ch N=>
  have S:Sx cS cM H a m nm tg gs ck ch N:=h;obtain⟨dx,fs,pr,h1,h2,h3⟩:=S.ex;obtain⟨dm,fm,m1,m2,m3,m4⟩:=S.mb.ex;exact⟨⟨dx,fs,pr,e1 _ _ (.inl rfl) h1,h2,e1 _ _ (.inr (.inr (.inr (.inr (.inr ⟨_,h3⟩))))) h3⟩,⟨⟨dm,fm,e1 _ _ (.inr (.inl rfl)) m1,m2,m3,m4⟩,e1 _ _ (.inr (.inr (.inl rfl))) S.mb.hs⟩,
   S.dt.keep fun b o hb=>e1 b o (hb.elim (fun z=>.inr (.inr (.inr (.inl z)))) fun z=>.inr (.inr (.inr (.inr (.inr z))))),S.dg.keep fun b o hb=>e1 b o (hb.elim (fun z=>.inr (.inr (.inr (.inr (.inl z))))) fun z=>.inr (.inr (.inr (.inr (.inr z))))),S.nl,S.n1,S.n2,S.n3,S.n4⟩
 |rd nm q rs tu ch=>
  have S:Rx cR cM H a m nm q rs tu ch:=h;obtain⟨dx,fs,h1,h2⟩:=S.ex;obtain⟨dm,fm,m1,m2,m3,m4⟩:=S.mb.ex;exact⟨⟨dx,fs,e1 _ _ (.inl rfl) h1,h2⟩,⟨⟨dm,fm,e1 _ _ (.inr (.inl rfl)) m1,m2,m3,m4⟩,e1 _ _ (.inr (.inr (.inl rfl))) S.mb.hs⟩,e1 _ _ (.inr (.inr (.inr (.inl rfl)))) S.hq,e1 _ _ (.inr (.inr (.inr (.inr (.inl rfl))))) S.hr,S.n3,S.n4⟩
theorem Ag.at(h:Ag cS cR cM H a m c){b:Addr}(hb:b∈jY a):∃o,H b=some o/\∀xs,o≠.tup xs:=by
 cases c with
 |st nm tg gs ck ch N=>
  have S:Sx cS cM H a m nm tg gs ck ch N:=h;obtain⟨dx,fs,pr,h1,h2,h3⟩:=S.ex;obtain⟨dm,fm,m1,_,m3,m4⟩:=S.mb.ex;obtain⟨kt,t1,_⟩:=S.dt.ex;obtain⟨kg,g1,_⟩:=S.dg.ex;rcases gz.mp hb with z|z|z|z|z <;> subst z
  ·exact⟨_,h1,by intro xs y;cases y⟩
  ·exact⟨_,m1,by intro xs y;cases y⟩
  ·exact⟨_,S.mb.hs,by intro xs y;cases y⟩
  ·exact⟨_,t1,by intro xs y;cases y⟩
  ·exact⟨_,g1,by intro xs y;cases y⟩
 |rd nm q rs tu ch=>
  have S:Rx cR cM H a m nm q rs tu ch:=h;obtain⟨dx,fs,h1,h2⟩:=S.ex;obtain⟨dm,fm,m1,_,m3,m4⟩:=S.mb.ex;rcases gz.mp hb with z|z|z|z|z <;> subst z
  ·exact⟨_,h1,by intro xs y;cases y⟩
  ·exact⟨_,m1,by intro xs y;cases y⟩
  ·exact⟨_,S.mb.hs,by intro xs y;cases y⟩
  ·exact⟨_,S.hq,by intro xs y;cases y⟩
  ·exact⟨_,S.hr,by intro xs y;cases y⟩
end
theorem Ag.nodup{cS cR cM:Addr}{H:Hp}{a:k9}{m:Int}{c:gJ}(h:Ag cS cR cM H a m c):(jY a).Nodup:=by
 have go:a.p≠a.pm->a.p≠a.ps->a.p≠a.pt->a.p≠a.pg->a.pm≠a.ps->a.pm≠a.pt->a.pm≠a.pg->a.ps≠a.pt->a.ps≠a.pg->a.pt≠a.pg->(jY a).Nodup:=by intro h1 h2 h3 h4 h5 h6 h7 h8 h9 Gw;unfold jY;simp[h1,h2,h3,h4,h5,h6,h7,h8,h9,Gw]
 cases c with
 |st nm tg gs ck ch N=>
  have S:Sx cS cM H a m nm tg gs ck ch N:=h;obtain⟨dx,fs,pr,h1,h2,h3⟩:=S.ex;obtain⟨dm,fm,m1,_,m3,m4⟩:=S.mb.ex;obtain⟨kt,t1,_⟩:=S.dt.ex;obtain⟨kg,g1,_⟩:=S.dg.ex;exact go S.n4 (bQ h1 S.mb.hs (by intro z;cases z)) (bQ h1 t1 (by intro z;cases z)) (bQ h1 g1 (by intro z;cases z)) (bQ m1 S.mb.hs (by intro z;cases z)) (bQ m1 t1 (by intro z;cases z)) (bQ m1 g1 (by intro z;cases z)) S.n2.symm S.n3.symm S.n1
 |rd nm q rs tu ch=>
  have S:Rx cR cM H a m nm q rs tu ch:=h;obtain⟨dx,fs,h1,h2⟩:=S.ex;obtain⟨dm,fm,m1,_,m3,m4⟩:=S.mb.ex;exact go S.n4 (bQ h1 S.mb.hs (by intro z;cases z)) (bQ h1 S.hq (by intro z;cases z)) (bQ h1 S.hr (by intro z;cases z)) (bQ m1 S.mb.hs (by intro z;cases z)) (bQ m1 S.hq (by intro z;cases z)) (bQ m1 S.hr (by intro z;cases z)) (bQ S.mb.hs S.hq (by intro z;cases z)) S.n3.symm (bQ S.hq S.hr (by intro z;cases z))
section
variable{m:Int}{c:gJ}{x:Str}{s:Int}
theorem gJ.Ok.put(h:c.Ok m)(hx:dw c.nm x=none)(s0:1<=s)(s1:s<=1000000)(ok:PyData.strOk x=true):(c.put x s).Ok m:=by
 cases c with
 |st nm tg gs ck ch N=>
  refine⟨h.1.put hx s0 s1 ok,fun y hy=>?_⟩;unfold vH;by_cases e:y=x
  ·rw[if_pos e,if_pos e];exact⟨_,_,rfl,rfl⟩
  ·have hx:dw nm x=none:=hx;rw[K0 hx,if_neg e]at hy;rw[if_neg e,if_neg e];exact h.2 y hy
 |rd nm q rs tu ch=>exact⟨h.1.put hx s0 s1 ok,h.2.put hx s0 s1⟩
theorem gJ.Ok.new(h:1<=m)(b:Bool):(gJ.new b).Ok m:=by
 cases b with
 |true=>exact⟨DS.nil,.nil h⟩
 |false=>exact⟨DS.nil,fun y hy=>absurd rfl hy⟩
end
def tO(S:List Addr)(H H':Hp):Prop:=∀b o,b∉S->H b=some o->H' b=some o
theorem tO.mono{S S':List Addr}{H H1:Hp}(x:tO S H H1)(h:∀b∈S,b∈S'):tO S' H H1:=fun b o n e=>x b o (fun z=>n (h b z)) e
theorem oS.B3{a:k9}{H H':Hp}(w:oS a H H'):tO (jY a) H H':=fun b o n e=>by rw[gz]at n;exact w b o (fun z=>n (.inl z)) (fun z=>n (.inr (.inr (.inl z)))) (fun z=>n (.inr (.inr (.inr (.inl z))))) (fun z=>n (.inr (.inr (.inr (.inr z))))) e
structure FN(fs:List (Str×V))(ab ch rm bk:V)(ql:Addr):Prop where
 ab:fs.lookup ("above":Str)=some ab
 ch:fs.lookup ("chooser":Str)=some ch
 rm:fs.lookup ("room":Str)=some rm
 bk:fs.lookup ("bucket":Str)=some bk
 qu:fs.lookup ("queue":Str)=some (.ref ql)
 no:∀m:Str,¬m="above"->¬m="chooser"->¬m="room"->¬m="bucket"->¬m="queue"->fs.lookup m=none
 len:fs.length<900
theorem FN.Eu(ab ch rm bk:V)(ql:Addr):FN (ak "queue" (.ref ql) (ak "bucket" bk (ak "room" rm (ak "chooser" ch (ak "above" ab []))))) ab ch rm bk ql:=by
 refine⟨?_,?_,?_,?_,?_,fun m h1 h2 h3 h4 h5=>?_,?_⟩
 ·rw[eJ (by decide+kernel),eJ (by decide+kernel),eJ (by decide+kernel),eJ (by decide+kernel),qP]
 ·rw[eJ (by decide+kernel),eJ (by decide+kernel),eJ (by decide+kernel),qP]
 ·rw[eJ (by decide+kernel),eJ (by decide+kernel),qP]
 ·rw[eJ (by decide+kernel),qP]
 ·rw[qP]
 ·rw[eJ h5,eJ h4,eJ h3,eJ h2,eJ h1];rfl
 ·have l1:=gP (fs:=[]) (f:="above") (v:=ab);have l2:=gP (fs:=ak "above" ab []) (f:="chooser") (v:=ch);have l3:=gP (fs:=ak "chooser" ch (ak "above" ab [])) (f:="room") (v:=rm);have l4:=gP (fs:=ak "room" rm (ak "chooser" ch (ak "above" ab []))) (f:="bucket") (v:=bk);have l5:=gP (fs:=ak "bucket" bk (ak "room" rm (ak "chooser" ch (ak "above" ab [])))) (f:="queue") (v:=.ref ql);simp only[aU]at l1;omega
theorem FN.G6{fs:List (Str×V)}{ab ch rm bk Ds:V}{ql:Addr}(h:FN fs ab ch rm bk ql):FN (ak "bucket" Ds fs) ab ch rm Ds ql:=by
 refine⟨?_,?_,?_,qP,?_,fun m h1 h2 h3 h4 h5=>?_,?_⟩
 ·rw[eJ (by decide+kernel)];exact h.ab
 ·rw[eJ (by decide+kernel)];exact h.ch
 ·rw[eJ (by decide+kernel)];exact h.rm
 ·rw[eJ (by decide+kernel)];exact h.qu
 ·rw[eJ h4];exact h.no m h1 h2 h3 h4 h5
 ·rw[Iw h.bk];exact h.len
structure HF where
 d:Int
 r:Rat
 s:Int
 l:Rat
structure ND where
 nm:Str
 p:Addr
 ql:Addr
 ab:Option Str
 ch:Option (k9×gJ)
 rm:V
 bk:Option (Addr×HF)
 ps:List Addr
 qu:List D2
structure Cl where
 n:Addr
 s:Addr
 r:Addr
 m:Addr
 b:Addr
 t:Addr
def Gq:Option (k9×gJ)->List Addr
 |none=>[]
 |some c=>jY c.1
def MQ:Option (Addr×HF)->List Addr
 |none=>[]
 |some b=>[b.1]
def ND.foot(x:ND):List Addr:=x.p::x.ql::(Gq x.ch++MQ x.bk)
def IY:Option (k9×gJ)->V
 |none=>.non
 |some c=>.ref c.1.p
def Lp:Option (Addr×HF)->V
 |none=>.non
 |some b=>.ref b.1
structure lP(C:Cl)(H:Hp)(m:Int)(x:ND):Prop where
 ex:∃dx fs,H x.p=some (.ins C.n dx fs)/\FN fs (CB x.ab) (IY x.ch) x.rm (Lp x.bk) x.ql
 qu:UO H x.ql x.ps x.qu
 ch:∀c,x.ch=some c->Ag C.s C.r C.m H c.1 m c.2
 bk:∀b,x.bk=some b->Bk C.b H b.1 b.2.d b.2.r b.2.s b.2.l
section
variable{C:Cl}{H H':Hp}{m:Int}{x:ND}
theorem lP.keep(h:lP C H m x)(e:∀b o,(b∈x.foot\/∃xs,H b=some (.tup xs))->H b=some o->H' b=some o):lP C H' m x:=by
 obtain⟨dx,fs,h1,h2⟩:=h.ex;refine⟨⟨dx,fs,e _ _ (.inl (aq ..)) h1,h2⟩,⟨e _ _ (.inl (af _ (aq ..))) h.qu.hl,h.qu.r.keep fun p z hp=>e _ _ (.inr ⟨_,hp⟩) hp⟩,fun c hc=>?_,fun b hb=>?_⟩
 ·refine(h.ch c hc).keep fun b o hb=>e b o (hb.imp (fun z=>?_) id);refine af _ (af _ (aA.mpr (.inl ?_)));rw[hc];exact z
 ·obtain⟨E4,yo,pr,pl,b1,b2,b3,b4⟩:=(h.bk b hb).ex;refine⟨E4,yo,pr,pl,e _ _ (.inl ?_) b1,b2,e _ _ (.inr ⟨_,b3⟩) b3,e _ _ (.inr ⟨_,b4⟩) b4⟩;refine af _ (af _ (aA.mpr (.inr ?_)));rw[hb];exact aD.mpr rfl
theorem lP.at(h:lP C H m x){b:Addr}(hb:b∈x.foot):∃o,H b=some o/\∀xs,o≠.tup xs:=by
 unfold ND.foot at hb;rcases ah.mp hb with z|hb
 ·obtain⟨dx,fs,h1,h2⟩:=h.ex;subst z;exact⟨_,h1,by intro xs y;cases y⟩
 rcases ah.mp hb with z|hb
 ·subst z;exact⟨_,h.qu.hl,by intro xs y;cases y⟩
 rcases aA.mp hb with z|z
 ·cases hc:x.ch with
  |none=>rw[hc]at z;cases z
  |some c=>rw[hc]at z;exact(h.ch c hc).at z
 ·cases hc:x.bk with
  |none=>rw[hc]at z;cases z
  |some c=>
   rw[hc]at z;obtain⟨E4,yo,pr,pl,b1,_⟩:=(h.bk c hc).ex;have:b=c.1:=aD.mp z;subst this;exact⟨_,b1,by intro xs y;cases y⟩
theorem lP.B3{S:List Addr}(h:lP C H m x)(d:tO S H H')(f:∀b∈x.foot,b∉S)(nt:∀b∈S,∀xs,H b≠some (.tup xs)):lP C H' m x:=
 h.keep fun b o hb e=>d b o (hb.elim (fun z=>f b z) fun⟨xs,z⟩ y=>nt b y xs z) e
end
theorem lP.new{C:Cl}{H3 H4:Hp}{m:Int}{nm:Str}{x dx ql:Addr}{fs:List (Str×V)}{ab:Option Str}{ch:Option (k9×gJ)}{rm:V}(hx:H3 x=none)(hd:H3 dx=none)(bt:qR x (aB (aB H3 dx (.own x)) x (.ins C.n dx [])) H4)(hq:aB (aB H3 dx (.own x)) x (.ins C.n dx []) ql=none)(h1:H4 x=some (.ins C.n dx fs))(h2:FN fs (CB ab) (IY ch) rm .non ql)(h3:H4 ql=some (.lst []))(hc:∀c,ch=some c->Ag C.s C.r C.m H3 c.1 m c.2):
    aQ H3 H4/\lP C H4 m ⟨nm,x,ql,ab,ch,rm,none,[],[]⟩/\(ND.foot ⟨nm,x,ql,ab,ch,rm,none,[],[]⟩).Nodup/\H3 ql=none:=by
  have sm:aQ H3 H4:=fun b o e=>bt b o (gq e hx) (xU hx hd _ _ e);have Ij:ql≠x:=fun z=>by rw[z,bh]at hq;cases hq
  have q3:H3 ql=none:=by
    rw[bw Ij]at hq;by_cases e:ql=dx
    · rw[e,bh]at hq;cases hq
    · rw[bw e]at hq;exact hq
  refine⟨sm,⟨⟨dx,fs,h1,h2⟩,⟨h3,.nil⟩,fun c e=>(hc c e).keep fun b o _ e=>sm b o e,fun b e=>(by cases e)⟩,?_,q3⟩;show(x::ql::(Gq ch++[])).Nodup;rw[aN];cases ch with
  |none=>simp[Gq,Ij.symm]
  |some c=>
    have C1:=hc c rfl;have n1:x∉jY c.1:=fun z=>by obtain⟨o,ho,_⟩:=C1.at z;rw[hx]at ho;cases ho
    have n2:ql∉jY c.1:=fun z=>by obtain⟨o,ho,_⟩:=C1.at z;rw[q3]at ho;cases ho
    rw[aL,aL];exact⟨by rw[ah,not_or];exact⟨Ij.symm,n1⟩,n2,C1.nodup⟩
structure DQ(fs:List (Str×V))(m:Int)(pn:Addr)(tm fr ct:Int)(pg:Addr):Prop where
 mo:fs.lookup ("most":Str)=some (.int m)
 no:fs.lookup ("nodes":Str)=some (.ref pn)
 ti:fs.lookup ("time":Str)=some (.int tm)
 fr:fs.lookup ("free":Str)=some (.int fr)
 co:fs.lookup ("counted":Str)=some (.int ct)
 go:fs.lookup ("gone":Str)=some (.ref pg)
 Qt:∀m:Str,¬m="most"->¬m="nodes"->¬m="time"->¬m="free"->¬m="counted"->¬m="gone"->fs.lookup m=none
 len:fs.length<900
theorem DQ.Eu(m:Int)(pn:Addr)(tm fr ct:Int)(pg:Addr):DQ (ak "gone" (.ref pg) (ak "counted" (.int ct) (ak "free" (.int fr) (ak "time" (.int tm) (ak "nodes" (.ref pn) (ak "most" (.int m) [])))))) m pn tm fr ct pg:=by
 refine⟨?_,?_,?_,?_,?_,?_,fun m h1 h2 h3 h4 h5 h6=>?_,?_⟩
 ·rw[eJ (by decide+kernel),eJ (by decide+kernel),eJ (by decide+kernel),eJ (by decide+kernel),eJ (by decide+kernel),qP]
 ·rw[eJ (by decide+kernel),eJ (by decide+kernel),eJ (by decide+kernel),eJ (by decide+kernel),qP]
 ·rw[eJ (by decide+kernel),eJ (by decide+kernel),eJ (by decide+kernel),qP]
 ·rw[eJ (by decide+kernel),eJ (by decide+kernel),qP]
 ·rw[eJ (by decide+kernel),qP]
 ·rw[qP]
 ·rw[eJ h6,eJ h5,eJ h4,eJ h3,eJ h2,eJ h1];rfl
 ·have a1:=gP (fs:=[]) (f:="most") (v:=.int m);have a2:=gP (fs:=ak "most" (.int m) []) (f:="nodes") (v:=.ref pn);have a3:=gP (fs:=ak "nodes" (.ref pn) (ak "most" (.int m) [])) (f:="time") (v:=.int tm);have a4:=gP (fs:=ak "time" (.int tm) (ak "nodes" (.ref pn) (ak "most" (.int m) []))) (f:="free") (v:=.int fr);have a5:=gP (fs:=ak "free" (.int fr) (ak "time" (.int tm) (ak "nodes" (.ref pn) (ak "most" (.int m) [])))) (f:="counted") (v:=.int ct);have a6:=gP (fs:=ak "counted" (.int ct) (ak "free" (.int fr) (ak "time" (.int tm) (ak "nodes" (.ref pn) (ak "most" (.int m) []))))) (f:="gone") (v:=.ref pg);simp only[aU]at a1;omega
theorem DQ.G7{fs:List (Str×V)}{m:Int}{pn:Addr}{tm Ol fr ct:Int}{pg:Addr}(h:DQ fs m pn tm fr ct pg):DQ (ak "time" (.int Ol) fs) m pn Ol fr ct pg:=by
 refine⟨?_,?_,qP,?_,?_,?_,fun m h1 h2 h3 h4 h5 h6=>?_,?_⟩
 ·rw[eJ (by decide+kernel)];exact h.mo
 ·rw[eJ (by decide+kernel)];exact h.no
 ·rw[eJ (by decide+kernel)];exact h.fr
 ·rw[eJ (by decide+kernel)];exact h.co
 ·rw[eJ (by decide+kernel)];exact h.go
 ·rw[eJ h3];exact h.Qt m h1 h2 h3 h4 h5 h6
 ·rw[Iw h.ti];exact h.len
abbrev D3:=Int×Int×Str
def Va(g:D3):List V:=[.int g.1,.int g.2.1,.str g.2.2]
structure TD where
 p:Addr
 pn:Addr
 pg:Addr
 most:Int
 tm:Int
 fr:Int
 ct:Int
 ns:List ND
 gp:List Addr
 gs:List D3
def TD.foot(D:TD):List Addr:=D.p::D.pn::D.pg::D.ns.flatMap ND.foot
def uP(ns:List ND):List (Key×V):=ns.map fun x=>((aH x.nm:Key),V.ref x.p)
structure d9(C:Cl)(H:Hp)(D:TD):Prop where
 ex:∃dx fs,H D.p=some (.ins C.t dx fs)/\DQ fs D.most D.pn D.tm D.fr D.ct D.pg
 hn:H D.pn=some (.dK (uP D.ns))
 nd:∀x∈D.ns,lP C H D.most x
 go:H D.pg=some (.lst (D.gp.map V.ref))
 gr:Paired (fun p g=>H p=some (.tup (Va g))) D.gp D.gs
 fd:D.foot.Nodup
theorem KW{α β:Type}{R S:α->β->Prop}(h:∀a b,R a b->S a b):∀{l:List α}{k:List β},Paired R l k->Paired S l k
 |_,_,.nil=>.nil
 |_,_,.cons a b=>.cons (h _ _ a) (KW h b)
section
variable{C:Cl}{H H':Hp}{D:TD}
theorem TD.ig{x:ND}{b:Addr}(hx:x∈D.ns)(hb:b∈x.foot):b∈D.foot:=
 af _ (af _ (af _ (b5.mpr ⟨x,hx,hb⟩)))
theorem d9.keep(h:d9 C H D)(e:∀b o,(b∈D.foot\/∃xs,H b=some (.tup xs))->H b=some o->H' b=some o):d9 C H' D:=by obtain⟨dx,fs,h1,h2⟩:=h.ex;exact⟨⟨dx,fs,e _ _ (.inl (aq ..)) h1,h2⟩,e _ _ (.inl (af _ (aq ..))) h.hn,fun x hx=>(h.nd x hx).keep fun b o hb=>e b o (hb.imp (fun z=>TD.ig hx z) id),e _ _ (.inl (af _ (af _ (aq ..)))) h.go,KW (fun a b z=>e _ _ (.inr ⟨_,z⟩) z) h.gr,h.fd⟩
theorem d9.same(h:d9 C H D)(s:aQ H H'):d9 C H' D:=h.keep fun b o _ e=>s b o e
theorem d9.at(h:d9 C H D){b:Addr}(hb:b∈D.foot):∃o,H b=some o/\∀xs,o≠.tup xs:=by
 unfold TD.foot at hb;rcases ah.mp hb with z|hb
 ·obtain⟨dx,fs,h1,h2⟩:=h.ex;subst z;exact⟨_,h1,by intro xs y;cases y⟩
 rcases ah.mp hb with z|hb
 ·subst z;exact⟨_,h.hn,by intro xs y;cases y⟩
 rcases ah.mp hb with z|hb
 ·subst z;exact⟨_,h.go,by intro xs y;cases y⟩
 obtain⟨x,hx,z⟩:=b5.mp hb;exact(h.nd x hx).at z
end
def bA(ns:List ND)(x:Str):Option ND:=ns.find? fun n=>decide (n.nm=x)
theorem Ad{ns:List ND}{x:Str}{n:ND}(h:bA ns x=some n):n∈ns/\n.nm=x:=by unfold bA at h;exact⟨wB h,of_decide_eq_true (Gf (p:=fun n:ND=>decide (n.nm=x)) h)⟩
theorem iR{ns:List ND}{x:Str}:bA ns x=none↔x∉ns.map (·.nm):=by
 unfold bA;rw[Di];constructor
 ·intro h z;obtain⟨n,hn,e⟩:=aZ.mp z;exact h n hn (decide_eq_true e)
 ·intro h n hn e;exact h (aZ.mpr ⟨n,hn,of_decide_eq_true e⟩)
theorem IF{ns:List ND}(nd:(ns.map (·.nm)).Nodup){n:ND}(h:n∈ns):bA ns n.nm=some n:=by
 induction ns with
 |nil=>cases h
 |cons y r ih=>
  rw[aM,aL]at nd;unfold bA;rw[bz];rcases ah.mp h with e|e
  ·subst e;simp
  ·have ne:decide (y.nm=n.nm)=false:=decide_eq_false fun z=>nd.1 (by rw[z];exact aZ.mpr ⟨n,e,rfl⟩);rw[ne];exact ih nd.2 e
theorem K6(ns:List ND)(x:Str):fk (uP ns) (aH x:Key)=(bA ns x).map fun n=>V.ref n.p:=by
 induction ns with
 |nil=>rfl
 |cons p r ih=>
  unfold fk uP bA at ih⊢;rw[aM,bz,bz];by_cases h:p.nm=x
  ·simp[h]
  ·have h2:¬(aH p.nm:Key)=aH x:=fun z=>h (jG z);simp only[decide_eq_false h,decide_eq_false h2];exact ih
theorem T9(ns:List ND):(uP ns).length=ns.length:=aj _
theorem zxh{ns:List ND}{n:ND}(h:bA ns n.nm=none):gB (uP ns) (aH n.nm:Key) (.ref n.p)=uP (ns++[n]):=by
 unfold gB;have e:((uP ns).any fun kv=>decide (kv.1=(aH n.nm:Key)))=false:=by rw[HC,K6,h];rfl
 rw[e,if_neg (by decide)];unfold uP;rw[aC];rfl
theorem O9{ns:List ND}{n:ND}(h:bA ns n.nm=none)(x:Str):bA (ns++[n]) x=if x=n.nm then some n else bA ns x:=by
 unfold bA at h⊢;rw[DW];by_cases e:x=n.nm
 ·subst e;rw[if_pos rfl,h];simp
 ·rw[if_neg e];have:([n].find? fun y=>decide (y.nm=x))=none:=by have:¬n.nm=x:=fun z=>e z.symm;simp[this]
  rw[this];simp
def dY(ns:List ND)(n:ND):List ND:=ns.map fun y=>if y.nm=n.nm then n else y
theorem Ms(ns:List ND)(n:ND):(dY ns n).map (·.nm)=ns.map (·.nm):=by
 unfold dY;rw[qS];refine fZ fun y _=>?_;show(if y.nm=n.nm then n else y).nm=y.nm;split
 ·rename_i h;exact h.symm
 ·rfl
theorem ID{ns:List ND}{n:ND}(x:Str):bA (dY ns n) x=if x=n.nm then(bA ns x).map (fun _=>n)else bA ns x:=by
 induction ns with
 |nil=>unfold bA dY;simp
 |cons p r ih=>
  unfold bA dY at ih⊢;rw[aM,bz,bz];by_cases hp:p.nm=n.nm
  ·rw[if_pos hp];by_cases hy:p.nm=x
   ·have:n.nm=x:=hp▸hy;simp[hy,this]
   ·have:¬n.nm=x:=hp▸hy;simp only[decide_eq_false hy,decide_eq_false this];exact ih
  ·rw[if_neg hp];by_cases hy:p.nm=x
   ·have:¬x=n.nm:=fun z=>hp (hy.trans z);simp[hy,this]
   ·simp only[decide_eq_false hy];exact ih
theorem SX{l1 l2:List ND}{n n':ND}(e:n'.nm=n.nm)(nd:((l1++n::l2).map (·.nm)).Nodup):dY (l1++n::l2) n'=l1++n'::l2:=by
 unfold dY;rw[aC,bS,aM,aL]at nd;rw[aC,aM,if_pos e.symm];have h1:l1.map (fun y=>if y.nm=n'.nm then n' else y)=l1:=by
  conv=>rhs;rw[<-List.map_id l1]
  refine fZ fun y hy=>?_;rw[if_neg];rfl;intro z;exact nd.2.2 y.nm (aZ.mpr ⟨y,hy,rfl⟩) n.nm (aq ..) (z.trans e)
 have h2:l2.map (fun y=>if y.nm=n'.nm then n' else y)=l2:=by
  conv=>rhs;rw[<-List.map_id l2]
  refine fZ fun y hy=>?_;rw[if_neg];rfl;intro z;exact nd.2.1.1 (aZ.mpr ⟨y,hy,z.trans e⟩)
 rw[h1,h2]
section
variable{C:Cl}{H H':Hp}{D:TD}
theorem d9.node(h:d9 C H D)(nd:(D.ns.map (·.nm)).Nodup){n n':ND}(hn:n∈D.ns)(e:n'.nm=n.nm)(ep:n'.p=n.p)(d:tO n.foot H H')(ok:lP C H' D.most n')(fn:n'.foot.Nodup)(fr:∀b∈n'.foot,b∈n.foot\/H b=none):d9 C H' {D with ns:=dY D.ns n'}:=by
 obtain⟨l1,l2,el⟩:=pJ hn;have fd:=h.fd;unfold TD.foot at fd;rw[el,iZ,gZ]at fd;simp only[aL,ah,aA,not_or,bS]at fd;obtain⟨⟨a1,a2,a3,a4,a5⟩,⟨b1,b2,b3,b4⟩,⟨c1,c2,c3⟩,d1,⟨d2,d3,d4⟩,d5⟩:=fd;have nt:∀b∈n.foot,∀xs,H b≠some (.tup xs):=fun b hb xs z=>by obtain⟨o,ho,q⟩:=(h.nd n hn).at hb;rw[ho]at z;exact q xs (aK z)
 obtain⟨dx,fs,h1,h2⟩:=h.ex;have new:∀{b:Addr}{o:HO},H b=some o->b∉n.foot->b∉n'.foot:=fun{b o} ho hb z=>by
  rcases fr b z with y|y
  ·exact hb y
  ·rw[ho]at y;cases y
 have sp:dY D.ns n'=l1++n'::l2:=by rw[el]at nd⊢;exact SX e nd
 have hs:∀{b:Addr},b∈D.foot->∃o,H b=some o:=fun{b} hb=>(h.at hb).imp fun _ z=>z.1;refine⟨⟨dx,fs,d _ _ a4 h1,h2⟩,?_,fun x hx=>?_,d _ _ c2 h.go,KW (fun p g z=>d _ _ (fun y=>nt p y _ z) z) h.gr,?_⟩
 ·show H' D.pn=some (.dK (uP (dY D.ns n')));have:uP (dY D.ns n')=uP D.ns:=by rw[sp,el];unfold uP;rw[aC,aC,aM,aM,e,ep]
  rw[this];exact d _ _ b3 h.hn
 ·have hx:x∈l1++n'::l2:=sp▸hx;have xS:x∈D.ns->(∀b∈x.foot,b∉n.foot)->lP C H' D.most x:=fun h1 h2=>(h.nd x h1).B3 d h2 nt;rcases aA.mp hx with z|z
  ·exact xS (el▸aA.mpr (.inl z)) fun b hb y=>d5 b (b5.mpr ⟨x,z,hb⟩) b (.inl y) rfl
  ·rcases ah.mp z with z|z
   ·rw[z];exact ok
   ·exact xS (el▸aA.mpr (.inr (af _ z))) fun b hb y=>d4 b y b (b5.mpr ⟨x,z,hb⟩) rfl
 ·show(D.p::D.pn::D.pg::(dY D.ns n').flatMap ND.foot).Nodup;rw[sp,iZ,gZ];simp only[aL,ah,aA,not_or,bS];have VB:∀{b:Addr},b∈l1.flatMap ND.foot->∃o,H b=some o:=fun{b} hb=>by obtain⟨x,hx,y⟩:=b5.mp hb;exact hs (TD.ig (el▸aA.mpr (.inl hx)) y)
  have xN:∀{b:Addr},b∈l2.flatMap ND.foot->∃o,H b=some o:=fun{b} hb=>by obtain⟨x,hx,y⟩:=b5.mp hb;exact hs (TD.ig (el▸aA.mpr (.inr (af _ hx))) y)
  refine⟨⟨a1,a2,a3,new h1 a4,a5⟩,⟨b1,b2,new h.hn b3,b4⟩,⟨c1,new h.go c2,c3⟩,d1,⟨fn,d3,fun b hb c hc z=>?_⟩,fun b hb c hc z=>?_⟩
  ·subst z;obtain⟨o,ho⟩:=xN hc;exact new ho (fun y=>d4 b y b hc rfl) hb
  ·subst z;obtain⟨o,ho⟩:=VB hb;rcases hc with y|y
   ·exact new ho (fun q=>d5 b hb b (.inl q) rfl) y
   ·exact d5 b hb b (.inr y) rfl
end
def eI:Str:=Str.ofString "road"
inductive Up(ns:List ND):Str->List Str->Prop
 |top {x:Str} {n:ND}:bA ns x=some n->n.ab=none->Up ns x [x]
 |on {x y:Str} {n:ND} {ys:List Str}:bA ns x=some n->n.ab=some y->Up ns y ys->Up ns x (x::ys)
theorem Up.Pz{ns:List ND}{x:Str}{ys:List Str}(h:Up ns x ys):∃n,bA ns x=some n:=by
 cases h with
 |top h _=>exact⟨_,h⟩
 |on h _ _=>exact⟨_,h⟩
theorem Up.det{ns:List ND}{x:Str}{ys zs:List Str}(h:Up ns x ys):Up ns x zs->ys=zs:=by
 induction h generalizing zs with
 |top h e=>
  intro k;cases k with
  |top _ _=>rfl
  |on h2 e2 _=>rw[h]at h2;cases h2;rw[e]at e2;cases e2
 |on h e r ih=>
  intro k;cases k with
  |top h2 e2=>rw[h]at h2;cases h2;rw[e]at e2;cases e2
  |on h2 e2 r2=>
   rw[h]at h2;cases h2;rw[e]at e2;cases e2
   rw[ih r2]
theorem Up.mono{ns Qz:List ND}{x:Str}{ys:List Str}(h:Up ns x ys):(∀z∈ys,∀n,bA ns z=some n->∃n',bA Qz z=some n'/\n'.ab=n.ab)->Up Qz x ys:=by
 induction h with
 |top h e=>
  intro k;obtain⟨n',h1,h2⟩:=k _ (aq ..) _ h;exact .top h1 (h2.trans e)
 |on h e r ih=>
  intro k;obtain⟨n',h1,h2⟩:=k _ (aq ..) _ h;exact .on h1 (h2.trans e) (ih fun z hz=>k z (af _ hz))
theorem Up.pos{ns:List ND}{x:Str}{ys:List Str}(h:Up ns x ys):1<=ys.length:=by cases h <;> simp
def ju(ns:List ND)(x:Str):List Str:=(ns.filter fun n=>decide (n.ab=some x)).map (·.nm)
structure TD.Wf(D:TD):Prop where
 nn:(D.ns.map (·.nm)).Nodup
 rd:∃n r,D.ns=n::r/\n.nm=eI/\n.ab=none/\n.ch≠none
 ra:∀n∈D.ns,n.ab=none->n.nm=eI
 up:∀n∈D.ns,∃ys,Up D.ns n.nm ys/\ys.length<=6
 GU:∀n∈D.ns,∀c,n.ch=some c->c.2.nm.map (·.1)=ju D.ns n.nm
 lf:∀n∈D.ns,n.ch=none->ju D.ns n.nm=[]
 Gr:∀n∈D.ns,∀c,n.ch=some c->c.2.Ok D.most
 m1:1<=D.most/\D.most<=1000000
 LO:∀n∈D.ns,PyData.strOk n.nm=true/\n.nm.length<=8
theorem ZL(ns:List ND)(n:ND)(x:Str):ju (ns++[n]) x=ju ns x++(if n.ab=some x then[n.nm]else[]):=by
 unfold ju;rw[jz,aC];congr 1;by_cases h:n.ab=some x
 ·simp[h]
 ·simp[h]
theorem Tv{ns:List ND}{n n':ND}(nd:(ns.map (·.nm)).Nodup)(hn:n∈ns)(e:n'.nm=n.nm)(ea:n'.ab=n.ab)(x:Str):ju (dY ns n') x=ju ns x:=by
 obtain⟨l1,l2,el⟩:=pJ hn;rw[el]at nd⊢;rw[SX e nd];unfold ju;rw[jz,jz,aC,aC];congr 1;rw[iz,iz,ea];by_cases h:n.ab=some x
 ·simp[h,e]
 ·simp[h]
theorem TD.Wf.set{D:TD}(h:D.Wf){n n':ND}(hn:n∈D.ns)(e:n'.nm=n.nm)(ea:n'.ab=n.ab)(ec:n'.ch=none↔n.ch=none)(ek:∀c c',n.ch=some c->n'.ch=some c'->c'.2.nm.map (·.1)=c.2.nm.map (·.1))(ok:∀c,n'.ch=some c->c.2.Ok D.most):{D with ns:=dY D.ns n'}.Wf:=by
 have fn:=IF h.nn hn;have fs:∀y,bA (dY D.ns n') y=if y=n.nm then some n' else bA D.ns y:=fun y=>by
  rw[ID,e];by_cases q:y=n.nm
  ·rw[if_pos q,if_pos q,q,fn];rfl
  ·rw[if_neg q,if_neg q]
 have mem:∀y∈dY D.ns n',y=n'\/y∈D.ns:=fun y hy=>by
  unfold dY at hy;obtain⟨z,hz,q⟩:=aZ.mp hy;split at q
  ·exact .inl q.symm
  ·exact .inr (q▸hz)
 have kd:=fun x=>Tv h.nn hn e ea x;have Ip:∀{x ys},Up D.ns x ys->Up (dY D.ns n') x ys:=fun{x ys} u=>u.mono fun z _ m hm=>by
  rw[fs];by_cases q:z=n.nm
  ·rw[if_pos q];rw[q,fn]at hm;cases hm
   exact⟨_,rfl,ea⟩
  ·rw[if_neg q];exact⟨m,hm,rfl⟩
 obtain⟨r,rs,er,r1,r2,r3⟩:=h.rd;refine⟨by show((dY D.ns n').map (·.nm)).Nodup;rw[Ms];exact h.nn,?_,fun y hy ha=>?_,fun y hy=>?_,fun y hy c hc=>?_,fun y hy hc=>?_,fun y hy c hc=>?_,h.m1,fun y hy=>?_⟩
 ·show ∃n r,dY D.ns n'=n::r/\_;rw[er];unfold dY;rw[aM];by_cases q:r.nm=n'.nm
  ·rw[if_pos q];have:r=n:=by have h1:=IF h.nn (n:=r) (by rw[er];exact aq ..);rw[q,e,fn]at h1;exact(aK h1).symm
   subst this;exact⟨_,_,rfl,q▸r1,ea.trans r2,fun z=>r3 (ec.mp z)⟩
  ·rw[if_neg q];exact⟨_,_,rfl,r1,r2,r3⟩
 ·rcases mem y hy with z|z
  ·subst z;rw[e];exact h.ra n hn (ea▸ha)
  ·exact h.ra y z ha
 ·rcases mem y hy with z|z
  ·subst z;obtain⟨ys,u,l⟩:=h.up n hn;exact⟨ys,by rw[e];exact Ip u,l⟩
  ·obtain⟨ys,u,l⟩:=h.up y z;exact⟨ys,Ip u,l⟩
 ·show _=ju (dY D.ns n') y.nm;rw[kd];rcases mem y hy with z|z
  ·subst z;cases Eh:n.ch with
   |none=>rw[ec.mpr Eh]at hc;cases hc
   |some c0=>rw[ek c0 c Eh hc,e];exact h.GU n hn c0 Eh
  ·exact h.GU y z c hc
 ·show ju (dY D.ns n') y.nm=[];rw[kd];rcases mem y hy with z|z
  ·subst z;rw[e];exact h.lf n hn (ec.mp hc)
  ·exact h.lf y z hc
 ·rcases mem y hy with z|z
  ·subst z;exact ok c hc
  ·exact h.Gr y z c hc
 ·rcases mem y hy with z|z
  ·subst z;rw[e];exact h.LO n hn
  ·exact h.LO y z
theorem TD.Wf.put{D:TD}(h:D.Wf){u u' n:ND}{c:k9×gJ}{s:Int}(hu:u∈D.ns)(hc:u.ch=some c)(eu:u'={u with ch:=some (c.1,c.2.put n.nm s)})(ok:(c.2.put n.nm s).Ok D.most)(hn:bA D.ns n.nm=none)(ea:n.ab=some u.nm)(dp:∀ys,Up D.ns u.nm ys->ys.length<=5)(nk:∀c,n.ch=some c->c.2.nm=[]/\c.2.Ok D.most)(sk:PyData.strOk n.nm=true/\n.nm.length<=8):{D with ns:=dY D.ns u'++[n]}.Wf:=by
 have en:u'.nm=u.nm:=by rw[eu]
 have Ls:u'.ab=u.ab:=by rw[eu]
 have fu:=IF h.nn hu;have uQ:n.nm∉D.ns.map (·.nm):=iR.mp hn;have nu:n.nm≠u.nm:=fun z=>uQ (z▸aZ.mpr ⟨u,hu,rfl⟩);have fs:∀y,bA (dY D.ns u') y=if y=u.nm then some u' else bA D.ns y:=fun y=>by
  rw[ID,en];by_cases q:y=u.nm
  ·rw[if_pos q,if_pos q,q,fu];rfl
  ·rw[if_neg q,if_neg q]
 have Bp:bA (dY D.ns u') n.nm=none:=by rw[fs,if_neg nu];exact hn
 have ff:=fun y=>O9 (n:=n) Bp y;have mem:∀y∈dY D.ns u'++[n],y=n\/y=u'\/(y∈D.ns/\y.nm≠u.nm):=fun y hy=>by
  rcases aA.mp hy with hy|hy
  ·unfold dY at hy;obtain⟨z,hz,q⟩:=aZ.mp hy;split at q
   ·exact .inr (.inl q.symm)
   ·rename_i k
    exact .inr (.inr ⟨q▸hz,fun w=>k (by rw[q,w,en])⟩)
  ·exact .inl (aD.mp hy)
 have Ip:∀{x ys},Up D.ns x ys->Up (dY D.ns u'++[n]) x ys:=fun{x ys} w=>w.mono fun z _ m hm=>by
  rw[ff,fs];have z1:z≠n.nm:=fun q=>by rw[q,hn]at hm;cases hm
  rw[if_neg z1];by_cases q:z=u.nm
  ·rw[if_pos q];rw[q,fu]at hm;cases hm
   exact⟨_,rfl,Ls⟩
  ·rw[if_neg q];exact⟨m,hm,rfl⟩
 have kd:∀x,ju (dY D.ns u'++[n]) x=ju D.ns x++(if x=u.nm then[n.nm]else[]):=fun x=>by
  rw[ZL,Tv h.nn hu en Ls,ea];by_cases q:x=u.nm
  ·rw[if_pos q,if_pos (by rw[q])]
  ·rw[if_neg q,if_neg (fun z=>q (aK z).symm)]
 have Fo:ju D.ns n.nm=[]:=by
  unfold ju;rw[List.map_eq_nil_iff,List.filter_eq_nil_iff];intro y hy z;have z:=of_decide_eq_true z;obtain⟨ys,w,_⟩:=h.up y hy;cases w with
  |top h1 h2=>rw[IF h.nn hy]at h1;cases h1;rw[z]at h2;cases h2
  |on h1 h2 w=>
   rw[IF h.nn hy]at h1;cases h1;rw[z]at h2;cases h2
   obtain⟨m,hm⟩:=w.Pz;rw[hn]at hm;cases hm
 obtain⟨r,rs,er,r1,r2,r3⟩:=h.rd;refine⟨?_,?_,fun y hy ha=>?_,fun y hy=>?_,fun y hy d hd=>?_,fun y hy hd=>?_,fun y hy d hd=>?_,h.m1,fun y hy=>?_⟩
 ·show((dY D.ns u'++[n]).map (·.nm)).Nodup;rw[aC,Ms,bS];refine⟨h.nn,by simp,fun a ha b hb z=>?_⟩;have:b=n.nm:=aD.mp hb;subst this;subst z;exact uQ ha
 ·show ∃m r,dY D.ns u'++[n]=m::r/\_;rw[er];unfold dY;rw[aM,fT];by_cases q:r.nm=u'.nm
  ·rw[if_pos q];have:r=u:=by have h1:=IF h.nn (n:=r) (by rw[er];exact aq ..);rw[q,en,fu]at h1;exact(aK h1).symm
   subst this;exact⟨_,_,rfl,q▸r1,Ls.trans r2,by rw[eu];simp⟩
  ·rw[if_neg q];exact⟨_,_,rfl,r1,r2,r3⟩
 ·rcases mem y hy with z|z|z
  ·subst z;rw[ea]at ha;cases ha
  ·subst z;rw[en];exact h.ra u hu (Ls▸ha)
  ·exact h.ra y z.1 ha
 ·rcases mem y hy with z|z|z
  ·subst z;obtain⟨ys,w,_⟩:=h.up u hu;refine⟨y.nm::ys,.on (n:=y) (by rw[ff,if_pos rfl]) ea (Ip w),?_⟩;have:=dp ys w;rw[bG];omega
  ·subst z;obtain⟨ys,w,l⟩:=h.up u hu;exact⟨ys,by rw[en];exact Ip w,l⟩
  ·obtain⟨ys,w,l⟩:=h.up y z.1;exact⟨ys,Ip w,l⟩
 ·show _=ju (dY D.ns u'++[n]) y.nm;rw[kd];rcases mem y hy with z|z|z
  ·subst z;rw[(nk d hd).1,Fo,if_neg nu];rfl
  ·subst z;rw[en,if_pos rfl];have:d=(c.1,c.2.put n.nm s):=by rw[eu]at hd;exact(aK hd).symm
   rw[this];show(c.2.put n.nm s).nm.map (·.1)=_;rw[gJ.GW,aC,h.GU u hu c hc];rfl
  ·rw[if_neg z.2,aN];exact h.GU y z.1 d hd
 ·show ju (dY D.ns u'++[n]) y.nm=[];rw[kd];rcases mem y hy with z|z|z
  ·subst z;rw[Fo,if_neg nu];rfl
  ·subst z;rw[eu]at hd;cases hd
  ·rw[if_neg z.2,aN];exact h.lf y z.1 hd
 ·rcases mem y hy with z|z|z
  ·subst z;exact(nk d hd).2
  ·subst z;have:d=(c.1,c.2.put n.nm s):=by rw[eu]at hd;exact(aK hd).symm
   rw[this];exact ok
  ·exact h.Gr y z.1 d hd
 ·rcases mem y hy with z|z|z
  ·subst z;exact sk
  ·subst z;rw[en];exact h.LO u hu
  ·exact h.LO y z.1
theorem TD.Wf.new{D:TD}{n:ND}{a:k9}{b:Bool}(e:D.ns=[n])(h1:n.nm=eI)(h2:n.ab=none)(h3:n.ch=some (a,gJ.new b))(m1:1<=D.most/\D.most<=1000000):D.Wf:=by
 have one:∀{y},y∈D.ns->y=n:=fun{y} hy=>by rw[e]at hy;exact aD.mp hy
 have f:bA D.ns n.nm=some n:=by rw[e];unfold bA;simp
 have kd:∀x,ju D.ns x=[]:=fun x=>by rw[e];unfold ju;simp[h2]
 refine⟨by rw[e];simp,⟨n,[],e,h1,h2,by rw[h3];simp⟩,fun y hy _=>one hy▸h1,fun y hy=>?_,fun y hy c hc=>?_,fun y hy _=>kd _,fun y hy c hc=>?_,m1,fun y hy=>?_⟩
 ·rw[one hy];exact⟨[n.nm],.top f h2,by simp⟩
 ·rw[kd];rw[one hy,h3]at hc;cases hc
  show(gJ.new b).nm.map _=[];rw[gJ.Cw];rfl
 ·rw[one hy,h3]at hc;cases hc
  exact gJ.Ok.new m1.1 b
 ·rw[one hy,h1];exact⟨by decide+kernel,by decide+kernel⟩
theorem TD.Wf.Er{D:TD}(h:D.Wf){n:ND}(hn:n∈D.ns){c:k9×gJ}(hc:n.ch=some c):c.2.nm.length<=D.ns.length:=by have:=congrArg m6 (h.GU n hn c hc);unfold ju at this;rw[aj,aj]at this;rw[this];exact ir _ _
section
variable{C:Cl}{H H':Hp}{D:TD}
theorem d9.Cv(h:d9 C H D){n:ND}(hn:n∈D.ns):n.foot.Nodup:=by have fd:=h.fd;unfold TD.foot at fd;obtain⟨l1,l2,el⟩:=pJ hn;rw[el,iZ,gZ]at fd;simp only[aL,bS]at fd;exact fd.2.2.2.2.1.1
theorem d9.D8(h:d9 C H D)(nd:(D.ns.map (·.nm)).Nodup){n:ND}(hn:n∈D.ns){a:k9}{c c':gJ}(hc:n.ch=some (a,c))(ow:oS a H H')(C':Ag C.s C.r C.m H' a D.most c'):d9 C H' {D with ns:=dY D.ns {n with ch:=some (a,c')}}:=by
 have fn:=h.Cv hn;have N:=h.nd n hn;have ef:ND.foot {n with ch:=some (a,c')}=n.foot:=by unfold ND.foot;rw[hc];rfl
 have sub:∀b∈jY a,b∈n.foot:=fun b hb=>by unfold ND.foot;rw[hc];exact af _ (af _ (aA.mpr (.inl hb)))
 have fd:n.foot=n.p::n.ql::(jY a++MQ n.bk):=by unfold ND.foot;rw[hc];rfl
 have Gu:=fn;rw[fd]at Gu;simp only[aL,ah,aA,not_or,bS]at Gu;obtain⟨⟨f1,f2,f3⟩,⟨f4,f5⟩,f6,f7,f8⟩:=Gu;have dd:=ow.B3;have nt:∀{b xs},H b=some (.tup xs)->b∉jY a:=fun{b xs} e z=>by obtain⟨o,ho,q⟩:=(N.ch _ hc).at z;rw[e]at ho;exact q xs (aK ho).symm
 obtain⟨dx,fs,h1,h2⟩:=N.ex;refine h.node nd hn rfl rfl (dd.mono sub) ⟨⟨dx,fs,dd _ _ f2 h1,by rw[hc]at h2;exact h2⟩,⟨dd _ _ f4 N.qu.hl,N.qu.r.keep fun p z hp=>dd _ _ (nt hp) hp⟩,fun d hd=>?_,fun b hb=>?_⟩ (by rw[ef];exact fn) fun b hb=>.inl (by rw[ef]at hb;exact hb)
 ·cases hd;exact C'
 ·obtain⟨E4,yo,pr,pl,b1,b2,b3,b4⟩:=(N.bk b hb).ex;have:b.1∉jY a:=fun z=>f8 b.1 z b.1 (by rw[show n.bk=some b from hb];exact aD.mpr rfl) rfl;exact⟨E4,yo,pr,pl,dd _ _ this b1,b2,dd _ _ (nt b3) b3,dd _ _ (nt b4) b4⟩
theorem d9.snoc(h:d9 C H D){n:ND}(s:aQ H H')(ok:lP C H' D.most n)(fn:n.foot.Nodup)(fr:∀b∈n.foot,H b=none):d9 C (aB H' D.pn (.dK (uP (D.ns++[n])))) {D with ns:=D.ns++[n]}:=by
 have fd:=h.fd;unfold TD.foot at fd;simp only[aL,ah,not_or]at fd;obtain⟨⟨a1,a2,a3⟩,⟨b1,b2⟩,c1,d1⟩:=fd;have nf:∀b∈D.foot,b∉n.foot:=fun b hb z=>by obtain⟨o,ho,_⟩:=h.at hb;rw[fr b z]at ho;cases ho
 have kp:∀b o,b≠D.pn->H' b=some o->aB H' D.pn (.dK (uP (D.ns++[n]))) b=some o:=fun b o q e=>by rw[bw q];exact e
 have tp:∀{b xs},H' b=some (.tup xs)->b≠D.pn:=fun{b xs} e z=>by rw[z,s _ _ h.hn]at e;cases e
 obtain⟨dx,fs,h1,h2⟩:=h.ex;have h':=h.same s;refine⟨⟨dx,fs,kp _ _ a1 (s _ _ h1),h2⟩,bh,fun x hx=>?_,kp _ _ (bV b1) (s _ _ h.go),KW (fun p g z=>kp _ _ (tp z) z) h'.gr,?_⟩
 ·rcases aA.mp hx with z|z
  ·refine(h'.nd x z).keep fun b o hb e=>kp b o ?_ e;rcases hb with q|⟨xs,q⟩
   ·exact fun w=>b2 (w▸b5.mpr ⟨x,z,q⟩)
   ·exact tp q
  ·rw[aD.mp z];refine ok.keep fun b o hb e=>kp b o ?_ e;rcases hb with q|⟨xs,q⟩
   ·exact fun w=>nf D.pn (af _ (aq ..)) (w▸q)
   ·exact tp q
 ·show(D.p::D.pn::D.pg::(D.ns++[n]).flatMap ND.foot).Nodup;rw[iZ,gZ,EW,aN];simp only[aL,ah,aA,not_or,bS];have f1:=nf D.p (aq ..);have f2:=nf D.pn (af _ (aq ..));have f3:=nf D.pg (af _ (af _ (aq ..)));refine⟨⟨a1,a2,a3,f1⟩,⟨b1,b2,f2⟩,⟨c1,f3⟩,d1,fn,fun b hb c hc z=>?_⟩;subst z;obtain⟨x,hx,y⟩:=b5.mp hb;exact nf b (TD.ig hx y) hc
end
theorem F5{n:Nat}(h:n<=1000000):n<sizeLine:=by rw[sizeLine_eq];omega
theorem Bc{n:Nat}(h:n<=1000000):n<=sizeLine:=rH (F5 h)
theorem sY{α:Type}{l:List α}{i:Nat}{a:α}(h:l[i]?=some a):l.take (i+1)=l.take i++[a]:=by obtain⟨hi,e⟩:=aE.mp h;rw[qT hi,e]
def MI(n:Nat)(z:Str):Prop:=PyData.strOk z=true/\z.length<=n
theorem zza{z:Str}:PyData.strOk z=true↔∀c∈z.cps.toList,c<1114112:=by unfold PyData.strOk;rw[Array.all_eq_true_iff_forall_mem];simp
def lets:Str:=Str.ofString "abcdefghijklmnopqrstuvwxyz"
def wk(z:Str):Prop:=(1<=z.length/\z.length<=8)/\∀c∈z.cps.toList,c∈lets.cps.toList
instance (z:Str):Decidable (wk z):=by unfold wk;exact inferInstance
def jI(kd:Str):Prop:=kd=Str.ofString "starts"\/kd=Str.ofString "rounds"
instance (kd:Str):Decidable (jI kd):=by unfold jI;exact inferInstance
def uG(kd:Str):Bool:=decide (kd=Str.ofString "rounds")
theorem Tw{kd:Str}:Nt (.str kd) [.str (Str.ofString "starts"),.str (Str.ofString "rounds")]=decide (jI kd):=by rw[eO,decide_eq_true_iff];show(Str.ofString "starts" ==kd||(Str.ofString "rounds" ==kd||false))=true↔kd=Str.ofString "starts"\/kd=Str.ofString "rounds";rw[Bool.or_false,Bool.or_eq_true,beq_iff_eq,beq_iff_eq];exact⟨fun h=>h.imp Ga Ga,fun h=>h.imp Ga Ga⟩
theorem sI{C:Cl}{H:Hp}{D:TD}{x:Str}{n:ND}(O:d9 C H D)(h:bA D.ns x=some n):kj H D.pn (.str x) (some (.ref n.p)):=by have:=kj.k (k:=aH x) O.hn;rw[K6,h]at this;exact this
def nK(kd:Str):Prop:=kd=Str.ofString "leaf"\/jI kd
instance (kd:Str):Decidable (nK kd):=by unfold nK;exact inferInstance
inductive Rf|name|taken|cls|place|share|length
open Classical in
noncomputable def jL(D:TD)(x u kd:Str)(s:Int)(rm:V):Option Rf:=
 if ¬wk x then some .name
 else if bA D.ns x≠none then some .taken
 else match bA D.ns u with
  |none=>some .cls
  |some n=>if ¬(nK kd/\n.ch≠none/\∀ys,Up D.ns u ys->ys.length<=5)then some .place
   else if ¬(1<=s/\s<=1000000)then some .share
   else if kd=Str.ofString "leaf"/\∃r:Int,rm= .int r/\r<0 then some .length
   else none
section
variable{D:TD}{x u kd:Str}{s:Int}{rm:V}{n:ND}
theorem Mg(h:¬wk x):jL D x u kd s rm=some .name:=by unfold jL;rw[if_pos h]
theorem SY(h:wk x)(hx:bA D.ns x≠none):jL D x u kd s rm=some .taken:=by unfold jL;rw[if_neg (fun z=>z h),if_pos hx]
theorem Ua(h:wk x)(hx:bA D.ns x=none)(hu:bA D.ns u=none):jL D x u kd s rm=some .cls:=by unfold jL;rw[if_neg (fun z=>z h),if_neg (fun z=>z hx),hu]
theorem OH(h:wk x)(hx:bA D.ns x=none)(hu:bA D.ns u=some n)(c:¬(nK kd/\n.ch≠none/\∀ys,Up D.ns u ys->ys.length<=5)):jL D x u kd s rm=some .place:=by unfold jL;rw[if_neg (fun z=>z h),if_neg (fun z=>z hx),hu];exact if_pos c
theorem S0(h:wk x)(hx:bA D.ns x=none)(hu:bA D.ns u=some n)(c:nK kd/\n.ch≠none/\∀ys,Up D.ns u ys->ys.length<=5)(d:¬(1<=s/\s<=1000000)):jL D x u kd s rm=some .share:=by unfold jL;rw[if_neg (fun z=>z h),if_neg (fun z=>z hx),hu];exact(if_neg (fun z=>z c)).trans (if_pos d)
theorem Yy(h:wk x)(hx:bA D.ns x=none)(hu:bA D.ns u=some n)(c:nK kd/\n.ch≠none/\∀ys,Up D.ns u ys->ys.length<=5)(d:1<=s/\s<=1000000)(e:kd=Str.ofString "leaf"/\∃r:Int,rm= .int r/\r<0):jL D x u kd s rm=some .length:=by unfold jL;rw[if_neg (fun z=>z h),if_neg (fun z=>z hx),hu];exact(if_neg (fun z=>z c)).trans ((if_neg (fun z=>z d)).trans (if_pos e))
theorem Tz(h:wk x)(hx:bA D.ns x=none)(hu:bA D.ns u=some n)(c:nK kd/\n.ch≠none/\∀ys,Up D.ns u ys->ys.length<=5)(d:1<=s/\s<=1000000)(e:¬(kd=Str.ofString "leaf"/\∃r:Int,rm= .int r/\r<0)):jL D x u kd s rm=none:=by unfold jL;rw[if_neg (fun z=>z h),if_neg (fun z=>z hx),hu];exact(if_neg (fun z=>z c)).trans ((if_neg (fun z=>z d)).trans (if_neg e))
end
def Rf.at(cN cT cC cP cS cL:Addr):Rf->Addr
 | .name=>cN
 | .taken=>cT
 | .cls=>cC
 | .place=>cP
 | .share=>cS
 | .length=>cL
def TD.put(D:TD)(u:ND)(c:k9×gJ)(s:Int)(n:ND):TD:={D with ns:=dY D.ns {u with ch:=some (c.1,c.2.put n.nm s)}++[n]}
def TD.full(D:TD):Prop:=D.ns.length<=60/\∀n∈D.ns,∀c,n.ch=some c->c.2.sz<=4*D.ns.length
def TD.fit(D:TD):Prop:=D.ns.length<=60/\∀n∈D.ns,∀c,n.ch=some c->c.2.sz<=800
theorem TD.full.fit{D:TD}(h:D.full):D.fit:=⟨h.1,fun n hn c hc=>bf (h.2 n hn c hc) (by have:=h.1;omega)⟩
section
variable{X:Cx}
end
theorem Qp{K:aa}{H:Hp}{l:Addr}{ks:List Str}{Q:VK}{y:Int}(hl:H l=some (.lst (ks.map V.str)))(h0:0<=y)(h1:y<ks.length)(k:∀z∈ks,Q (.str z) H):Ey K (.ref l) (.int y) H Q:=by have e:=Mi (xs:=ks.map V.str) (j:=y.toNat) (v:=V.str (ks[y.toNat]'(by omega))) (by simp);rw[Int.toNat_of_nonneg h0]at e;exact Bf (.of hl) e (k _ (iA _))
section
variable{C:Cl}{H H':Hp}{D:TD}
theorem d9.apart(h:d9 C H D){x:ND}(hx:x∈D.ns){b:Addr}(hb:b∈x.foot):b≠D.p/\b≠D.pn/\b≠D.pg:=by have fd:=h.fd;unfold TD.foot at fd;simp only[aL,ah,not_or]at fd;have m:=b5.mpr ⟨x,hx,hb⟩;exact⟨fun z=>fd.1.2.2 (z▸m),fun z=>fd.2.1.2 (z▸m),fun z=>fd.2.2.1 (z▸m)⟩
theorem d9.field(h:d9 C H D){dx:Addr}{fs yo:List (Str×V)}{tm fr ct:Int}(hp:H D.p=some (.ins C.t dx fs))(ft:DQ yo D.most D.pn tm fr ct D.pg):d9 C (aB H D.p (.ins C.t dx yo)) {D with tm:=tm,fr:=fr,ct:=ct}:=by
 have fd:=h.fd;unfold TD.foot at fd;simp only[aL,ah,not_or]at fd;have kp:∀b o,b≠D.p->H b=some o->aB H D.p (.ins C.t dx yo) b=some o:=fun b o q e=>by rw[bw q];exact e
 have tp:∀{b xs},H b=some (.tup xs)->b≠D.p:=fun{b xs} e z=>by rw[z,hp]at e;cases e
 refine⟨⟨dx,yo,bh,ft⟩,kp _ _ (bV fd.1.1) h.hn,fun x hx=>(h.nd x hx).keep fun b o hb e=>kp b o ?_ e,kp _ _ (bV fd.1.2.1) h.go,KW (fun p g z=>kp _ _ (tp z) z) h.gr,h.fd⟩;rcases hb with q|⟨xs,q⟩
 ·exact(h.apart hx q).1
 ·exact tp q
end
section
variable{C:Cl}{H H':Hp}{D:TD}
end
theorem zxi{X:Cx}(K:aa)(h:X.K=K){e:Expr}{f:Str}{pos:Pos}{ta:TE}(he:PE X e ta)(hb:attributeBase e f X.env (eval e X.env)=eval e X.env):PE X (.Attribute e f pos) (Hu K ta f):=h▸je he hb
theorem d9.vd{C:Cl}{H Hb:Hp}{D:TD}(h:d9 C H D)(nd:(D.ns.map (·.nm)).Nodup){n:ND}(hn:n∈D.ns)(s:aQ H Hb){dx:Addr}{fs:List (Str×V)}(hp:Hb n.p=some (.ins C.n dx fs))(hf:FN fs (CB n.ab) (IY n.ch) n.rm (Lp n.bk) n.ql)(Ds:Option (Addr×HF))(hb:∀b,Ds=some b->Bk C.b Hb b.1 b.2.d b.2.r b.2.s b.2.l/\H b.1=none):d9 C (aB Hb n.p (.ins C.n dx (ak "bucket" (Lp Ds) fs))) {D with ns:=dY D.ns {n with bk:=Ds}}:=by
 have fn:=h.Cv hn;have N:=(h.nd n hn).keep (H':=Hb) fun b o _ e=>s b o e;have Gu:=fn;unfold ND.foot at Gu;simp only[aL,ah,aA,not_or,bS]at Gu;obtain⟨⟨f1,f2,f3⟩,⟨f4,f5⟩,f6,f7,f8⟩:=Gu;have kp:∀b o,b≠n.p->Hb b=some o->aB Hb n.p (.ins C.n dx (ak "bucket" (Lp Ds) fs)) b=some o:=fun b o q e=>by rw[bw q];exact e
 have tp:∀{b xs},Hb b=some (.tup xs)->b≠n.p:=fun{b xs} e z=>by rw[z,hp]at e;cases e
 have hs:∀{b},b∈n.foot->∃o,H b=some o:=fun{b} hb=>(h.nd n hn).at hb|>.imp fun _ z=>z.1;refine h.node nd hn rfl rfl (fun b o nb e=>?_) ⟨⟨dx,_,bh,hf.G6⟩,⟨kp _ _ (bV f1) N.qu.hl,N.qu.r.keep fun p z hp=>kp _ _ (tp hp) hp⟩,fun c hc=>?_,fun b eb=>?_⟩ ?_ fun b zx=>?_
 ·have q:b≠n.p:=fun z=>nb (by rw[z];exact aq ..);rw[bw q];exact s _ _ e
 ·refine(N.ch c hc).keep fun b o hb e=>kp b o ?_ e;rcases hb with q|⟨xs,q⟩
  ·exact fun z=>f2 (by rw[show n.ch=some c from hc];exact z▸q)
  ·exact tp q
 ·obtain⟨q1,q2⟩:=hb b eb;obtain⟨E4,yo,pr,pl,b1,b2,b3,b4⟩:=q1.ex;have:b.1≠n.p:=fun z=>by obtain⟨o,ho⟩:=hs (b:=n.p) (aq ..);rw[z,ho]at q2;cases q2
  exact⟨E4,yo,pr,pl,kp _ _ this b1,b2,kp _ _ (tp b3) b3,kp _ _ (tp b4) b4⟩
 ·show(n.p::n.ql::(Gq n.ch++MQ Ds)).Nodup;cases Ds with
  |none=>
   show(n.p::n.ql::(Gq n.ch++[])).Nodup;rw[aN,aL,aL,ah,not_or];exact⟨⟨f1,f2⟩,f4,f6⟩
  |some b=>
   have q2:=(hb b rfl).2;have nb:∀{y},y∈n.foot->y≠b.1:=fun{y} hy z=>by obtain⟨o,ho⟩:=hs hy;rw[z,q2]at ho;cases ho
   have m1:n.p∈n.foot:=aq ..;have m2:n.ql∈n.foot:=af _ (aq ..);have m3:∀y∈Gq n.ch,y∈n.foot:=fun y hy=>af _ (af _ (aA.mpr (.inl hy)));show(n.p::n.ql::(Gq n.ch++[b.1])).Nodup;simp only[aL,ah,aA,not_or,bS,eG,or_false,not_false_eq_true,List.nodup_nil,and_true];refine⟨⟨f1,f2,nb m1⟩,⟨f4,nb m2⟩,f6,trivial,fun y hy z hz e=>?_⟩;exact nb (m3 y hy) (e.trans hz)
 ·unfold ND.foot at zx⊢;rcases ah.mp zx with z|zx
  ·exact .inl (z▸aq ..)
  rcases ah.mp zx with z|zx
  ·exact .inl (z▸af _ (aq ..))
  rcases aA.mp zx with z|z
  ·exact .inl (af _ (af _ (aA.mpr (.inl z))))
  ·right;cases Ds with
   |none=>cases z
   |some b0=>rw[aD.mp z];exact(hb b0 rfl).2
def TD.vd(D:TD)(n:ND)(bk:Option (Addr×HF)):TD:={D with ns:=dY D.ns {n with bk:=bk}}
theorem TD.Wf.vd{D:TD}(h:D.Wf){n:ND}(hn:n∈D.ns)(bk:Option (Addr×HF)):(D.vd n bk).Wf:=h.set hn rfl rfl Iff.rfl (fun c c' e1 e2=>by rw[show n.ch=some c' from e2]at e1;cases e1;rfl) fun c e=>h.Gr n hn c e
section
variable{prog:Program}{w:World}{A:Around}{R:Result->Shared->Prop}
def zzb(ns:List Int)(j:Nat)(Gp:Array Value):Prop:=(j=0/\Gp= #[])\/∃m t,Gp= #[.int m t,.int m t]/\m∈ns.take j/\∀n∈ns.take j,m<=n
def UG(ns:List Int)(d v:Value):Prop:=(ns=[]/\v=d)\/∃m t,v= .int m t/\m∈ns/\∀n∈ns,m<=n
theorem ZM{l it S:Addr}{ns:List Int}{dJ:List Value}{d:Value}(hh:A.handled=none)(VD:l≠it)(Lw:S≠it)(PM:S≠l)(rv:bP (ns.map V.int) dJ):
    ∀(k j:Nat)(s:Shared)(Gp:Array Value)(c:Nat),dJ.length-j=k->j<=dJ.length->s.heap.IsListIter it l j->s.heap.IsList l dJ.toArray->zzb ns j Gp->
    s.heap.get? S=some {cls:=.type "list",dict:=none,data:=.seq Gp c,slots:=#[]}->
    (∀v h' tk,UG ns d v->(∀b o,b≠it->b≠S->s.heap.get? b=some o->h'.get? b=some o)->R (.ok (.ret v)) {s with heap:=h',toks:=tk})->
    codeAny (model prog w) A (.builtin "min.loop" ⟨[.ref it,.none,.ref S],[("default",d)]⟩) R s:=by
  have gh:ns.length=dJ.length:=by have:=rv.length;rwa [aj]at this
  have nm:(toString "min" ++toString ".loop":String)="min.loop":=by decide
  intro k
  induction k with
  |zero=>
    intro j s Gp c hk hj uD Ly hb B9 gM;have ej:j=dJ.length:=by omega
    refine codeAny_builtin F.entry_min_loop ?_;rw[Around.under_plainId F.plain_min_loop _];show wpAny _ A.in1 (seqItems? (.ref S) >>=_) _ _ s;refine wpAny_bind (wpAny_seqItems B9 rfl ?_);show wpAny _ A.in1 (tryCatch (pyNext (.ref it)) _ >>=_) _ _ s;refine wpAny_bind (wpAny_tryCatch (wpAny_pyNext_list_end (A:=A.in1) hh uD Ly (by simp[ej]) fun h' ek=>?_));have zx:=ek S _ Lw B9;rcases hb with⟨e0,rfl⟩ |⟨m,t,rfl,hm,rT⟩
    · refine wpAny_bind (wpAny_rule (wpAny_pure ?_));refine gM d h' s.toks (.inl ⟨x6.mp (by omega),rfl⟩) fun b o n1 _ e=>ek b o n1 e
    · show wpAny _ A.in1 (updateSeq S (fun _=>#[]) >>=_) _ _ _;refine wpAny_bind (wpAny_updateSeq zx rfl (wpAny_bind (wpAny_letGo (wpAny_pure ?_))));rw[b6 (by omega)]at hm rT;exact gM _ _ s.toks (.inr ⟨m,t,rfl,hm,rT⟩) fun b o n1 n2 e=>(Heap.get?_update_other _ _ (bV n2)).trans (ek b o n1 e)
  |succ k ih=>
    intro j s Gp c hk hj uD Ly hb B9 gM;have oH:j<dJ.length:=by omega
    refine codeAny_builtin F.entry_min_loop ?_;rw[Around.under_plainId F.plain_min_loop _];show wpAny _ A.in1 (seqItems? (.ref S) >>=_) _ _ s;refine wpAny_bind (wpAny_seqItems B9 rfl ?_);show wpAny _ A.in1 (tryCatch (pyNext (.ref it)) _ >>=_) _ _ s;have hv:dJ.toArray[j]?=some dJ[j]:=by simp[oH]
    refine wpAny_bind (wpAny_tryCatch (wpAny_pyNext_list_item uD Ly hv fun h' GC Ih=>?_));obtain⟨n,t,en,ev⟩:=Zq rv hv;rw[ev];have zx:=Ih.extBut S _ Lw B9;have GG:h'.IsList l dJ.toArray:=Ly.extBut Ih.extBut VD;have step:∀(m:Int)(tt:Tok)(s2:Shared)(c2:Nat),s2.heap.IsListIter it l (j+1)->s2.heap.IsList l dJ.toArray->s2.heap.get? S=some {cls:=.type "list",dict:=none,data:=.seq #[.int m tt,.int m tt] c2,slots:=#[]}->
        m∈ns.take (j+1)->(∀z∈ns.take (j+1),m<=z)->(∀b o,b≠it->b≠S->s.heap.get? b=some o->s2.heap.get? b=some o)->s2.gens=s.gens->s2.drawn=s.drawn->s2.os=s.os->
        codeAny (model prog w) A (.builtin "min.loop" ⟨[.ref it,.none,.ref S],[("default",d)]⟩) R s2:=fun m tt s2 c2 i1 i2 i3 i4 i5 i6 g1 g2 g3=>by
      refine ih (j+1) s2 _ c2 (by omega) oH i1 i2 (.inr ⟨m,tt,rfl,i4,i5⟩) i3 fun v Vp Oj r1 r2=>?_;have:=gM v Vp Oj r1 fun b o n1 n2 e=>r2 b o n1 n2 (i6 b o n1 n2 e);obtain⟨q1,q2,q3,q4,q5⟩:=s2;obtain⟨p1,p2,p3,p4,p5⟩:=s;cases g1;cases g2;cases g3
      exact this
    have uA:=SH en;have xB:∀(g:Obj->Obj) b o,b≠it->b≠S->s.heap.get? b=some o->(h'.update S g).get? b=some o:=fun g b o n1 n2 e=>(Heap.get?_update_other _ _ (bV n2)).trans (Ih.extBut b o n1 e);rcases hb with⟨e0,rfl⟩ |⟨m,t0,rfl,hm,rT⟩
    · show wpAny _ A.in1 (updateSeq S (fun _=>_) >>=_) _ _ _;refine wpAny_bind (wpAny_updateSeq zx rfl ?_);rw[nm];refine wpAny_pure ⟨plainId_quiet F.plain_min_loop _,step n t _ _ (GC.at fun o e=>(Heap.get?_update_other _ _ Lw).trans e) (GG.at fun o e=>(Heap.get?_update_other _ _ PM).trans e) (Heap.get?_update_self _ zx rfl) ?_ ?_ (xB _) rfl rfl rfl⟩
      · rw[uA];simp
      · rw[uA,e0];simp
    · show wpAny _ A.in1 (tryCatch (holding [.int n t,.int n t] (richCompare .Lt (.int n t) (.int m t0) >>=_)) _ >>=_) _ _ _;refine wpAny_bind (wpAny_tryCatch (wpAny_holding (wpAny_bind (richCompare_gives (op:=.Lt) (typeIs_int _ _ t) (typeIs_int _ _ t0) F.slot_int_lt F.entry_int_lt (F.args_int_lt_2 _ _) (gives_int_lt _ _ t t0) (fun x=>nomatch x) ?_))));refine wpAny_bind (wpAny_holding (wpAny_truthy_bool (wpAny_bind (wpAny_letGo (wpAny_pure ?_)))));by_cases PZ:n<m
      · simp only[PZ,decide_true,if_true];refine wpAny_bind (wpAny_updateSeq zx rfl (wpAny_bind (wpAny_letGo ?_)));rw[nm];refine wpAny_pure ⟨plainId_quiet F.plain_min_loop _,step n t _ _ (GC.at fun o e=>(Heap.get?_update_other _ _ Lw).trans e) (GG.at fun o e=>(Heap.get?_update_other _ _ PM).trans e) (Heap.get?_update_self _ zx rfl) ?_ ?_ (xB _) rfl rfl rfl⟩
        · rw[uA];simp
        · rw[uA];intro z hz;rcases aA.mp hz with hz|hz
          · have:=rT z hz;omega
          · have:z=n:=by simpa using hz
            omega
      · simp only[PZ,decide_false,pI,if_false];refine wpAny_bind (wpAny_letGo ?_);rw[nm];refine wpAny_pure ⟨plainId_quiet F.plain_min_loop _,step m t0 _ c GC GG zx ?_ ?_ (fun b o n1 _ e=>Ih.extBut b o n1 e) rfl rfl rfl⟩
        · rw[uA];exact fK _ hm
        · rw[uA];intro z hz;rcases aA.mp hz with hz|hz
          · exact rT z hz
          · have:z=n:=by simpa using hz
            omega
theorem Y6(a d:Value):argsOk "min" ⟨[a],[("default",d)]⟩:=by unfold argsOk;kernel_rfl
theorem Y7{E:Value->Shared->Prop}{s:Shared}{l:Addr}{ns:List Int}{dJ:List Value}{d:Value}{Q:Value->Shared->Prop}(hh:A.handled=none)(hl:s.heap.IsList l dJ.toArray)(rv:bP (ns.map V.int) dJ)(h:∀v h' tk,UG ns d v->(∀b o,s.heap.get? b=some o->h'.get? b=some o)->Q v {s with heap:=h',toks:=tk}):
    wpAny (model prog w) A (call (.builtin "min") [.ref l] [("default",d)]) Q E s:=by
  have nm:(toString "min" ++toString ".loop":String)="min.loop":=by decide
  refine wpAny_call (codeAny_call_builtin F.plain_min F.entry_min ?_);have ca:checkBuiltinCall "min" ⟨[.ref l],[("default",d)]⟩=pure ():=by
    simp only[checkBuiltinCall,F.kind_min];cases Nl:Manifest.signature? "min"with
    |none=>rfl
    |some sig=>
      have ha:=Y6 (.ref l) d;simp only[argsOk,Nl]at ha;exact ha
  rw[ca];refine wpAny_pure ?_;show wpAny _ A.in1 (Builtin.Builtins.bindParams "min" ["key","default"] 0 ⟨[],[("default",d)]⟩ >>=_) _ _ s;refine wpAny_bind (wpAny_of_eq (show Builtin.Builtins.bindParams "min" ["key","default"] 0 ⟨[],[("default",d)]⟩=pure [none,some d]from rfl) ?_);refine wpAny_bind (wpAny_pure ?_);have oH:l<s.heap.objs.size:=by obtain⟨_,e,_⟩:=id hl;exact Heap.lt_size e
  refine wpAny_bind (wpAny_pyIter_list hl ?_);refine wpAny_bind (wpAny_newObj_type ?_);rw[nm];have kp:∀(x y:Obj) b o,s.heap.get? b=some o->((s.heap.push x).push y).get? b=some o:=fun x y b o e=>Heap.get?_push_of_some _ (Heap.get?_push_of_some _ e);refine wpAny_pure ⟨plainId_quiet F.plain_min_loop _,?_⟩;refine ZM (it:=s.heap.objs.size) (S:=(s.heap.push _).objs.size) hh (aJ oH) (by rw[Heap.size_push];exact Gj _) (by rw[Heap.size_push];exact lO (rJ oH)) rv dJ.length 0 _ #[] 0 rfl (di _)
    ⟨_,Heap.get?_push_of_some _ (Heap.get?_push_size _ rfl),rfl,rfl⟩ (hl.at fun o e=>kp _ _ _ _ e) (.inl ⟨rfl,rfl⟩) (Heap.get?_push_size _ rfl) fun v h' tk r1 r2=>?_;refine h v h' tk r1 fun b o e=>r2 b o (aJ (Heap.lt_size e)) (aJ ?_) (kp _ _ _ _ e);rw[Heap.size_push];exact rJ (Heap.lt_size e)
end
def FT(K:aa)(t:TA)(td:TE):TE:=fun σ H Q=>t σ H fun xs H1=>td σ H1 fun y H2=>∃(p:Addr)(ns:List Int),xs=[.ref p]/\iO K H2 p (ns.map V.int)/\(ns=[]->Q y H2)/\∀m,m∈ns->(∀n∈ns,m<=n)->Q (.int m) H2
theorem zxj{X:Cx}(K:aa)(hK:X.K=K)(hc:X.calm=true){l d:Expr}{t:TA}{td:TE}{p pos JF:Pos}(hg:Gl X "min")(hm:X.mg "min"=none)(hl:PA X [l] t)(hd:PE X d td)(he:starEach [l] X.env=[(false,eval l X.env)]:=by rfl):
    PE X (.Call (.Name "min" p) [l] [⟨some "default",d,JF⟩] pos) (FT K t td):=by
  subst hK;intro ae s σ H Q I h;refine wpAny_Call_Name_kw (HE I hg hm boot_min ?_);refine callWith_kw (he:=by rw[he];rfl) (hplain:=by rw[he];rfl) ?_;refine d7 (hl pos ae s σ H _ I h) fun us s1⟨xs,H1,I1,r1,q1⟩=>?_;refine kws_cons (d7 (hd ae s1 σ H1 _ I1 q1) fun y s2⟨yv,H2,I2,r2,q2⟩=>kws_nil ?_);obtain⟨a,ns,rfl,hq,f0,gM⟩:=q2;obtain⟨u,rfl,ru⟩:=vals1 r1;cases(show u=Value.ref a from ru)
  obtain⟨dJ,rv,hp,hz⟩:=I2.list hq;refine Y7 (I2.ok.hd hc) hp.isList rv fun v h' tk r k=>?_;rcases r with⟨e,rfl⟩ |⟨m,t3,rfl,e1,e2⟩
  · exact⟨yv,H2,I2.kept (t':=tk) k,r2,f0 e⟩
  · exact⟨.int m,H2,I2.kept (t':=tk) k,⟨_,rfl⟩,gM m e1 e2⟩
theorem ZN{X:Cx}{e:Expr}:PE X e (fun _ _ _=>False):=fun _ _ _ _ _ _ h=>h.elim
section
variable{prog:Program}{w:World}{A:Around}{E:Value->Shared->Prop}{s:Shared}
end
section
variable{X:Cx}
end
section
variable{most:Int}{nm:Nm}{q:List Str}{rs:Nm}{tu:Option Str}
end
section
variable{D:TD}{u:Int}
end
section
variable{m:Int}{R:Str->Prop}{S T:List Str}{x:Str}{t len:Int}
end
section
variable{C:Cl}{H H':Hp}{D:TD}
end
section
variable{D:TD}{R:Str->Prop}{t len:Int}{x:Str}
end
end L2
namespace L2
end L2
namespace L2
open PySem PySem.Spec PyProof.Rows
section
variable{X:Cx}
end
section
variable{X:Cx}
end
section
variable{K:aa}{mg:Str->Option Value}{h:Heap}{C i dt:Addr}{m q:Str}{st:Stmt}{ps:List Str}{od an dd:Option Addr}{sl dl:Array (Option Value)}{oc kV dc pm co ct dv:Value}
abbrev IG(x q:Str)(st:Stmt)(ps:List Str):Prop:=∀(kV kK pm:Value)(an:Option Addr)(bL ct:Value)(us:List Value),us.length=ps.length->bindArgs (aT x q (tH st) (lY st) (b8 st) .none kV kK pm an bL ct) ⟨us,[]⟩=pure (ps.zip us)
theorem Hq(X:K.In h)(G:h.Ns mainGlobals mg)(a:kr K mainGlobals m=some (some (.ref i)))(l:K.lookup i=some ⟨oc,od,.func (aT m m (tH st) (lY st) (b8 st) .none kV dc pm an co ct),sl⟩)(c:bD K co m=true)(k:ay K (.ref i)=true)(b:IG m m st ps):jF K mg m st ps:=⟨_,_,F6 l c k,(F6 l c k).binds b,bO X G a⟩
theorem pP(a:ai K (.ref C) m=some (some (.ref i)))(f:e8 K (.ref i)=true)(l:K.lookup i=some ⟨oc,od,.func (aT m q (tH st) (lY st) (b8 st) .none kV dc pm an co ct),sl⟩)(c:bD K co q=true)(k:ay K (.ref i)=true)(b:IG m q st ps):d8 K C m q st ps [[]]:=⟨⟨_,_,K4 l c,⟨a,f,k⟩,fun dX h=>by rw[aD.mp h];exact .nil ((F6 l c k).binds b)⟩⟩
theorem in_of(a:ai K (.ref C) "__init__"=some (some (.ref i)))(f:e8 K (.ref i)=true)(l:K.lookup i=some ⟨oc,od,.func (aT "__init__" q (tH st) (lY st) (b8 st) .none kV dc pm an co ct),sl⟩)(c:bD K co q=true)(k:ay K (.ref i)=true)(b:IG "__init__" q st ps)(mk:gb K C=true)(kc:ay K (.ref C)=true):nD K C q st ps [[]]:=⟨⟨_,_,K4 l c,⟨mk,a,f,kc⟩,fun dX h=>by rw[aD.mp h];exact .nil ((F6 l c k).binds b)⟩⟩
theorem FZ(_:ai K (.ref C) m=some (some (.ref i)))(l:K.lookup i=some ⟨oc,od,.func (aT m q (tH st) (lY st) (b8 st) .none kV dc pm an co ct),sl⟩)(c:bD K co q=true)(r:Dr K C (.type "type")=true)(f:Dn K (.ref C) (.type "type") m=some (.val (.ref i)))(g:gI K (.ref C) "__getattribute__"=some (some (.builtin "type.__getattribute__")))(k:ay K (.ref i)=true)(b:IG m q st ps):BR K C m q st ps:=⟨⟨_,_,K4 l c,⟨⟨_,r,f⟩,g,k⟩,.nil ((F6 l c k).binds b)⟩⟩
theorem GV{items:Array Value}{n:Nat}{mP:List (List V)}(a:ai K (.ref C) m=some (some (.ref i)))(f:e8 K (.ref i)=true)(l:K.lookup i=some ⟨oc,od,.func (aT m q (tH st) (lY st) (b8 st) (.ref dt) kV dc pm an co ct),sl⟩)(c:bD K co q=true)(k:ay K (.ref i)=true)(dk:K.lookup dt=some ⟨dv,dd,.seq items n,dl⟩)(b:∀(fd:FuncData),fd=aT m q (tH st) (lY st) (b8 st) (.ref dt) kV dc pm an co ct->∀dX∈mP,∃ds,bP dX ds/\∀us:List Value,(us++ds).length=ps.length->∃z:Option (Array Value)->Sem (List (Str×Value)),bindArgs fd ⟨us,[]⟩=seqItems? fd.defaults >>=z/\z (some items)=pure (ps.zip (us++ds))):d8 K C m q st ps mP:=⟨⟨_,_,K4 l c,⟨a,f,k⟩,fun dX h=>by obtain⟨ds,v,z⟩:=b _ rfl dX h;exact⟨ds,v,Sg rfl dk z⟩⟩⟩
theorem yw{items:Array Value}{n:Nat}{mP:List (List V)}(a:ai K (.ref C) "__init__"=some (some (.ref i)))(f:e8 K (.ref i)=true)(l:K.lookup i=some ⟨oc,od,.func (aT "__init__" q (tH st) (lY st) (b8 st) (.ref dt) kV dc pm an co ct),sl⟩)(c:bD K co q=true)(dk:K.lookup dt=some ⟨dv,dd,.seq items n,dl⟩)(b:∀(fd:FuncData),fd=aT "__init__" q (tH st) (lY st) (b8 st) (.ref dt) kV dc pm an co ct->∀dX∈mP,∃ds,bP dX ds/\∀us:List Value,(us++ds).length=ps.length->∃z:Option (Array Value)->Sem (List (Str×Value)),bindArgs fd ⟨us,[]⟩=seqItems? fd.defaults >>=z/\z (some items)=pure (ps.zip (us++ds)))(mk:gb K C=true)(kc:ay K (.ref C)=true):nD K C q st ps mP:=⟨⟨_,_,K4 l c,⟨mk,a,f,kc⟩,fun dX h=>by obtain⟨ds,v,z⟩:=b _ rfl dX h;exact⟨ds,v,Sg rfl dk z⟩⟩⟩
theorem KP(hd:fE K C=true)(ga:ai K (.ref C) "__getattribute__"=some (some (.builtin "BaseException.__getattribute__")))(gn:ai K (.ref C) "__getattr__"=some none)(sa:ai K (.ref C) "__setattr__"=some (some (.builtin "object.__setattr__")))(cl:ai K (.ref C) "__class__"=some (some (.builtin "object.__class__")))(kg:gI K (.builtin "object.__class__") "__get__"=some (some (.builtin "getset_descriptor.__get__")))(kt:rL K (.builtin "object.__class__")=some true)(be:fB K C (.type "BaseException")=some true)(ob:fB K C (.type "object")=some true)(ex:aV K C j3 "ValueError.__new__"=true):XC K C:=⟨hd,ga,gn,sa,cl,kg,kt,be,ob,Zv ex⟩
theorem vU{W N:Addr}{nm qn:Str}{bs:List Value}{jt:Bool}{sn:List Str}{sub:List Value}{ab:Bool}{rQ:Option Bool}{k0 k1 k2 k3 k5:Option Value}(hd:fE K C=true)(ga:ai K (.ref C) "__getattribute__"=some (some (.builtin "BaseException.__getattribute__")))(gn:ai K (.ref C) "__getattr__"=some none)(sa:ai K (.ref C) "__setattr__"=some (some (.builtin "object.__setattr__")))(cl:ai K (.ref C) "__class__"=some (some (.builtin "object.__class__")))(kg:gI K (.builtin "object.__class__") "__get__"=some (some (.builtin "getset_descriptor.__get__")))(kt:rL K (.builtin "object.__class__")=some true)(be:fB K C (.type "BaseException")=some true)(ob:fB K C (.type "object")=some true)(lk:K.lookup C=some (excClassObj nm qn C N bs (.ref W::j3) jt sn sub ab rQ dd k0 k1 k2 k3 k5 "ValueError.__new__"))(ex:aV K W j3 "ValueError.__new__"=true):XC K C:=⟨hd,ga,gn,sa,cl,kg,kt,be,ob,zww ex lk⟩
theorem vq(a:ai K (.ref C) "__init__"=some (some (.ref i)))(l:K.lookup i=some ⟨oc,od,.func (aT "__init__" q (tH st) (lY st) (b8 st) .none kV dc pm an co ct),sl⟩)(t:eE K (.ref i)=some (.type "function"))(c:bD K co q=true)(k:ay K (.ref i)=true)(b:IG "__init__" q st ps):yf K C q st ps:=⟨⟨_,_,F6 l c k,(F6 l c k).binds b,a,t⟩⟩
theorem BY{t:Tok}{mk:Tok->Value}(X:K.In h)(G:h.Ns mainGlobals mg)(e:kr K mainGlobals m=some (some (mk t))):∃t,mg m=some (mk t):=⟨t,bO X G e⟩
theorem HA{x y:Str}{t u:Tok}{n:Nat}(X:K.In h)(G:h.Ns mainGlobals mg)(e:kr K mainGlobals m=some (some (.ref i)))(l:K.lookup i=some ⟨.type "tuple",od,.seq #[.str x t,.str y u] n,sl⟩):∃a,mg m=some (.ref a)/\∀H,p9 K H a [.str x,.str y]:=⟨_,bO X G e,fun H=>.inr ⟨_,_,_,l,rfl,rfl,(by show 2<=sizeLine;decide),.cons ⟨_,rfl⟩ (.cons ⟨_,rfl⟩ .nil)⟩⟩
theorem GS{x:Str}{t:Tok}{n:Nat}(a:ai K (.ref C) "__init__"=some (some (.ref i)))(f:e8 K (.ref i)=true)(l:K.lookup i=some ⟨oc,od,.func (aT "__init__" q (tH st) (lY st) (b8 st) (.ref dt) kV dc pm an co ct),sl⟩)(c:bD K co q=true)(dk:K.lookup dt=some ⟨dv,dd,.seq #[.str x t] n,dl⟩)(b:∀fd:FuncData,fd=aT "__init__" q (tH st) (lY st) (b8 st) (.ref dt) kV dc pm an co ct->(∀us:List Value,us.length=ps.length->∃z:Option (Array Value)->Sem (List (Str×Value)),bindArgs fd ⟨us,[]⟩=seqItems? fd.defaults >>=z/\z (some #[.str x t])=pure (ps.zip us))/\∀us:List Value,us.length+1=ps.length->∃z:Option (Array Value)->Sem (List (Str×Value)),bindArgs fd ⟨us,[]⟩=seqItems? fd.defaults >>=z/\z (some #[.str x t])=pure (ps.zip (us++[.str x t])))(mk:gb K C=true)(kc:ay K (.ref C)=true):nD K C q st ps [[],[.str x]]:=yw a f l c dk (fun fd e dX h=>by
 obtain⟨b1,b2⟩:=b fd e;rcases ah.mp h with h|h
 ·rw[h];exact⟨[],.nil,fun us hl=>by rw[aN]at hl⊢;exact b1 us hl⟩
 ·rw[aD.mp h];exact⟨[.str x t],.cons ⟨_,rfl⟩ .nil,fun us hl=>b2 us (by simpa using hl)⟩) mk kc
theorem GR{x:Int}{t:Tok}{n:Nat}(a:ai K (.ref C) "__init__"=some (some (.ref i)))(f:e8 K (.ref i)=true)(l:K.lookup i=some ⟨oc,od,.func (aT "__init__" q (tH st) (lY st) (b8 st) (.ref dt) kV dc pm an co ct),sl⟩)(c:bD K co q=true)(dk:K.lookup dt=some ⟨dv,dd,.seq #[.int x t] n,dl⟩)(b:∀fd:FuncData,fd=aT "__init__" q (tH st) (lY st) (b8 st) (.ref dt) kV dc pm an co ct->(∀us:List Value,us.length=ps.length->∃z:Option (Array Value)->Sem (List (Str×Value)),bindArgs fd ⟨us,[]⟩=seqItems? fd.defaults >>=z/\z (some #[.int x t])=pure (ps.zip us))/\∀us:List Value,us.length+1=ps.length->∃z:Option (Array Value)->Sem (List (Str×Value)),bindArgs fd ⟨us,[]⟩=seqItems? fd.defaults >>=z/\z (some #[.int x t])=pure (ps.zip (us++[.int x t])))(mk:gb K C=true)(kc:ay K (.ref C)=true):nD K C q st ps [[],[.int x]]:=yw a f l c dk (fun fd e dX h=>by
 obtain⟨b1,b2⟩:=b fd e;rcases ah.mp h with h|h
 ·rw[h];exact⟨[],.nil,fun us hl=>by rw[aN]at hl⊢;exact b1 us hl⟩
 ·rw[aD.mp h];exact⟨[.int x t],.cons ⟨_,rfl⟩ .nil,fun us hl=>b2 us (by simpa using hl)⟩) mk kc
end
end L2
namespace Sw
open L2
section
variable{n:Nat}
end
section
variable(ss:List S3)(s:Nat)
end
section
variable{ss:List S3}{s:Nat}
end
section
variable{ss:List S3}{L:Int}{m s:Nat}
end
end Sw
namespace Sw
open L2
section
variable{ss:List S3}{T:Nat->Rat}{Q D s a:Nat->Nat->Rat}{L:Int}{m:Nat}
end
end Sw
namespace Sw
open L2
section
variable{ss:List S3}{T:Nat->Rat}{Q D s a:Nat->Nat->Rat}{L:Int}{m:Nat}
end
end Sw
namespace Sw
open L2
section
variable(fs:List F4)(w:Nat->Int)
end
section
variable{fs:List F4}{w:Nat->Int}
end
end Sw
namespace Sw
open L2
section
variable{fs:List F4}{w:Nat->Int}{ss:List S3}{L:Int}{m:Nat}
end
end Sw
namespace Sw
open L2
section
variable{fs:List F4}{w:Nat->Int}{ss:List S3}
end
end Sw
namespace Sw
open L2
end Sw
namespace L2
open PySem PySem.Spec PyProof.Rows
structure m7(K:aa)(C W:Addr):Prop where
 cd:∃cd:ClassData,u9 K C=some cd/\cd.mro= .ref C:: .ref W::j3
 ty:eE K (.ref C)=some (.type "type")
theorem JL{K:aa}{C W:Addr}{cd:ClassData}(hc:u9 K C=some cd)(ty:eE K (.ref C)=some (.type "type"))(hm:cd.mro= .ref C:: .ref W::j3):m7 K C W:=⟨⟨cd,hc,hm⟩,ty⟩
theorem m7.sub{K:aa}{C W:Addr}(m:m7 K C W)(v:Value):fV K (.ref C) v=some ((Value.ref C:: .ref W::j3).contains v):=by obtain⟨cd,hc,hm⟩:=m.cd;show fB K C v=_;unfold fB;rw[hc];show(if cd.mro.isEmpty=true then none else some (cd.mro.contains v))=_;rw[hm];rfl
theorem m7.Ny{K:aa}{C D W:Addr}(m:m7 K C W)(m':m7 K D W)(n:D≠W):bW K (.ref C) (.ref D)=some (decide (C=D)):=by
 by_cases e:C=D
 ·subst e;rw[decide_eq_true rfl];exact Zw
 ·obtain⟨cd,hc,hm⟩:=m'.cd;rw[decide_eq_false e];have h1:(Value.ref C ==Value.ref D)=false:=by rw[beq_eq_false_iff_ne];exact fun z=>e (Value.ref.inj z)
  have h2:(Value.ref W ==Value.ref D)=false:=by rw[beq_eq_false_iff_ne];exact fun z=>n (Value.ref.inj z).symm
  refine zyp h1 hc m'.ty ?_;rw[m.sub];have h3:(Value.ref D ==Value.ref C)=false:=by rw[beq_eq_false_iff_ne];exact fun z=>e (Value.ref.inj z).symm
  have h4:(Value.ref D ==Value.ref W)=false:=by rw[beq_eq_false_iff_ne];exact fun z=>n (Value.ref.inj z)
  have h5:(j3.contains (Value.ref D))=false:=by simp[j3]
  rw[dh,dh,h3,h4,h5];rfl
theorem m7.NB{K:aa}{C W:Addr}(m:m7 K C W):bW K (.ref C) (.type "ValueError")=some true:=zyq (by rw[m.sub];have:j3.contains (.type "ValueError")=true:=rfl;rw[dh,dh,this,lg,lg])
theorem m7.Hs{K:aa}{C W:Addr}(m:m7 K C W):fV K (.ref C) (.ref W)=some true:=by
 rw[m.sub];rw[dh,dh];have:(Value.ref W ==Value.ref W)=true:=by simp
 rw[this,zb,lg]
theorem m7.Hr{K:aa}{C W:Addr}(m:m7 K C W):fV K (.ref C) (.ref C)=some true:=by
 rw[m.sub];rw[dh];have:(Value.ref C ==Value.ref C)=true:=by simp
 rw[this,zb]
structure Ge(K:aa)(W:Addr)(cs:List Addr):Prop where
 nd:(W::cs).Nodup
 mr:∀c∈cs,m7 K c W/\XC K c
theorem Ge.Ny{K:aa}{W:Addr}{cs:List Addr}(k:Ge K W cs){i j:Nat}(hi:i<cs.length)(hj:j<cs.length):bW K (.ref (cs.getD i 0)) (.ref (cs.getD j 0))=some (decide (i=j)):=by
 have nd:=aL.mp k.nd;have gi:cs.getD i 0=cs[i]:=by simp[hi]
 have gj:cs.getD j 0=cs[j]:=by simp[hj]
 rw[gi,gj];have mi:=iA hi;have mj:=iA hj;rw[(k.mr _ mi).1.Ny (k.mr _ mj).1 (fun z=>nd.1 (z▸mj))];congr 1;rw[decide_eq_decide];exact EX nd.2
theorem Ge.Nz{K:aa}{W:Addr}{cs:List Addr}(k:Ge K W cs){i j:Nat}{c:Addr}(hi:i<cs.length)(hj:cs[j]?=some c):bW K (.ref (cs.getD i 0)) (.ref c)=some (decide (i=j)):=by
 obtain⟨h,e⟩:=aE.mp hj;have:=k.Ny hi h
 rwa [show cs.getD j 0=c by simp[h,e]]at this
theorem Ge.at{K:aa}{W:Addr}{cs:List Addr}(k:Ge K W cs){i:Nat}(hi:i<cs.length):m7 K (cs.getD i 0) W/\XC K (cs.getD i 0):=by
 have gi:cs.getD i 0=cs[i]:=by simp[hi]
 rw[gi];exact k.mr _ (iA hi)
def oG(c:Addr)(H:Hp)(E:XK):Prop:=∀e d H',aQ H H'->H' e=some (b7 e c d false)->pN H' d->E (.ref e) d H'
theorem oG.rs{c:Addr}{H H1:Hp}{E:XK}(k:oG c H E)(s:aQ H H1):∀e,H1 e=none->E (.ref e) none (aB H1 e (b7 e c none false)):=fun e he=>k e none _ (s.trans (dZ he)) bh (.inl rfl)
theorem oG.same{c:Addr}{H H1:Hp}{E:XK}(k:oG c H E)(s:aQ H H1):oG c H1 E:=fun e d H' s'=>k e d H' (s.trans s')
section
variable{X:Cx}
end
end L2
local macro_rules| `(tactic|walk_at"rd")=>`(tactic|(try dsimp only[L2.yX,L2.Hv,L2.LW,L2.rS,L2.qM,L2.tC,L2.rI,L2.CJ,L2.rU,L2.LH,L2.LJ,L2.CM,L2.xA,L2.uh,L2.qL,L2.Dd,L2.xz,L2.z3,L2.KJ,L2.zY,L2.A9,L2.C7,L2.zX,L2.Hw,L2.Dc,L2.ED,L2.LU,L2.EH,L2.tB,L2.LR,L2.sV,L2.EJ,L2.EG,L2.KI,L2.EE,L2.sW,L2.vO,L2.vN,L2.zZ,L2.yY,L2.yZ,L2.zK,L2.EF,L2.qX,L2.Ht,L2.vP,L2.EI,L2.vQ,L2.vG,L2.pC,L2.sX,L2.EK,L2.z6,L2.vR,L2.Hy,L2.vS,L2.Ce,L2.wO,L2.GQ,L2.wN,L2.zz,L2.Cj,L2.Ck,L2.yu,L2.GO,L2.LV,L2.z4,L2.qY,L2.B7,L2.zw,L2.Ef,L2.yR,L2.vI,L2.vJ,L2.DM,L2.Hx,kD,kC,jE,jD,fT,fD]);try simp only[L2.yX,L2.Hv,L2.LW,L2.rS,L2.qM,L2.tC,L2.rI,L2.CJ,L2.rU,L2.LH,L2.LJ,L2.CM,L2.xA,L2.uh,L2.qL,L2.Dd,L2.xz,L2.z3,L2.KJ,L2.zY,L2.A9,L2.C7,L2.zX,L2.Hw,L2.Dc,L2.ED,L2.LU,L2.EH,L2.tB,L2.LR,L2.sV,L2.EJ,L2.EG,L2.KI,L2.EE,L2.sW,L2.vO,L2.vN,L2.zZ,L2.yY,L2.yZ,L2.zK,L2.EF,L2.qX,L2.Ht,L2.vP,L2.EI,L2.vQ,L2.vG,L2.pC,L2.sX,L2.EK,L2.z6,L2.vR,L2.Hy,L2.vS,L2.Ce,L2.wO,L2.GQ,L2.wN,L2.zz,L2.Cj,L2.Ck,L2.yu,L2.GO,L2.LV,L2.z4,L2.qY,L2.B7,L2.zw,L2.Ef,L2.yR,L2.vI,L2.vJ,kD,kC,jE,jD,fT,fD,aN,xH,L2.V.int.injEq,L2.V.bl.injEq,L2.V.ref.injEq,L2.V.str.injEq,Bh,exists_eq_left',exists_eq_left,exists_eq_right,exists_and_left,exists_and_right,and_true,true_and,and_self,exists_const,exists_eq,exists_eq',and_assoc,decide_eq_true_eq,jU,Bool.not_true,HH,pI,Dh,if_true,if_false,decide_eq_false_iff_not,ite_not,↓reduceIte,Int.reduceLT,Int.reduceLE,Int.reducePow,Int.reduceMul,Int.reduceAdd,Int.reduceSub,Int.reduceNeg,HK,Int.reduceEq,Int.reduceNe,L2.DM,L2.ux,L2.nM,L2.iG,bG,aU,Nat.reduceAdd,Nat.zero_add,L2.uw,pY,Int.natAbs_neg,Nat.reducePow,Nat.reduceLT,Gi,DU,L2.Hx,ne_eq,not_false_eq_true,not_true_eq_false])
local macro_rules| `(tactic|walk_at"rds")=>`(tactic|try simp only[L2.c9,L2.yX,L2.Hv,L2.LW,L2.rS,L2.qM,L2.tC,L2.rI,L2.CJ,L2.rU,L2.LH,L2.LJ,L2.CM,L2.xA,L2.uh,L2.qL,L2.Dd,L2.xz,L2.z3,L2.KJ,L2.zY,L2.A9,L2.C7,L2.zX,L2.Hw,L2.Dc,L2.ED,L2.LU,L2.EH,L2.tB,L2.LR,L2.sV,L2.EJ,L2.EG,L2.KI,L2.EE,L2.sW,L2.vO,L2.vN,L2.zZ,L2.yY,L2.yZ,L2.zK,L2.EF,L2.qX,L2.Ht,L2.vP,L2.EI,L2.vQ,L2.vG,L2.pC,L2.sX,L2.EK,L2.z6,L2.vR,L2.Hy,L2.vS,L2.Ce,L2.wO,L2.GQ,L2.wN,L2.zz,L2.Cj,L2.Ck,L2.yu,L2.GO,L2.LV,L2.z4,L2.qY,L2.B7,L2.zw,L2.Ef,L2.yR,L2.vI,L2.vJ,
 kD,kC,jE,jD,fT,fD,aN,xH,L2.V.int.injEq,L2.V.bl.injEq,L2.V.ref.injEq,L2.V.str.injEq,Bh,exists_eq_left',exists_eq_left,exists_eq_right,exists_and_left,exists_and_right,and_true,true_and,and_self,exists_const,exists_eq,exists_eq',and_assoc,decide_eq_true_eq,jU,Bool.not_true,HH,pI,Dh,if_true,if_false,decide_eq_false_iff_not,ite_not,↓reduceIte,Int.reduceLT,Int.reduceLE,Int.reducePow,Int.reduceMul,Int.reduceAdd,Int.reduceSub,Int.reduceNeg,HK,Int.reduceEq,Int.reduceNe,L2.DM,L2.ux,L2.nM,L2.iG,bG,aU,Nat.reduceAdd,Nat.zero_add,L2.uw,pY,Int.natAbs_neg,Nat.reducePow,Nat.reduceLT,Gi,DU,L2.Hx,ne_eq,not_false_eq_true,not_true_eq_false])
set_option hygiene false in
local macro_rules| `(tactic|walk_at"s")=>`(tactic|(refine _root_.L2.bU fun R hR=>?_;walk_at"rd"))
namespace K75
open PySem L2 PyProof.Rows
theorem _root_.L2.FB.zE{fs d pr s pl}(h:FB fs d pr s pl)(m:Str)(h1:¬m="depth":=by decide+kernel)(h2:¬m="rate":=by decide+kernel)(h3:¬m="since":=by decide+kernel)(h4:¬m="left":=by decide+kernel):fs.lookup m=none:=h.no m h1 h2 h3 h4
theorem _root_.L2.FS.zE{fs most pm ch pr pt pg}(h:FS fs most pm ch pr pt pg)(m:Str)(h1:¬m="most":=by decide+kernel)(h2:¬m="members":=by decide+kernel)(h3:¬m="chosen":=by decide+kernel)(h4:¬m="reached":=by decide+kernel)(h5:¬m="tags":=by decide+kernel)(h6:¬m="greatest_steps":=by decide+kernel):fs.lookup m=none:=h.no m h1 h2 h3 h4 h5 h6
theorem _root_.L2.FR.zE{fs most pm ch pt pg tu}(h:FR fs most pm ch pt pg tu)(m:Str)(h1:¬m="most":=by decide+kernel)(h2:¬m="members":=by decide+kernel)(h3:¬m="chosen":=by decide+kernel)(h4:¬m="queue":=by decide+kernel)(h5:¬m="rests":=by decide+kernel)(h6:¬m="turn":=by decide+kernel):fs.lookup m=none:=h.no m h1 h2 h3 h4 h5 h6
theorem _root_.L2.FN.zE{fs ab ch rm bk ql}(h:FN fs ab ch rm bk ql)(m:Str)(h1:¬m="above":=by decide+kernel)(h2:¬m="chooser":=by decide+kernel)(h3:¬m="room":=by decide+kernel)(h4:¬m="bucket":=by decide+kernel)(h5:¬m="queue":=by decide+kernel):fs.lookup m=none:=h.no m h1 h2 h3 h4 h5
theorem uN{fs m0 pn t0 f0 c0 pg}(h:DQ fs m0 pn t0 f0 c0 pg)(m:Str)(h1:¬m="most":=by decide+kernel)(h2:¬m="nodes":=by decide+kernel)(h3:¬m="time":=by decide+kernel)(h4:¬m="free":=by decide+kernel)(h5:¬m="counted":=by decide+kernel)(h6:¬m="gone":=by decide+kernel):fs.lookup m=none:=h.Qt m h1 h2 h3 h4 h5 h6
def top(i:Nat):Stmt:=PySem.Challenge.pw_sharewheel_k75_each_refusal_by_itself.main.body.getD i (.Pass ⟨0,0,0,0⟩)
abbrev R4:Stmt:=top 24
abbrev R5:Stmt:=top 25
abbrev UH:Stmt:=top 26
abbrev S1:Stmt:=top 27
abbrev S4:Stmt:=top 29
abbrev Ub:Stmt:=top 30
abbrev UI:Stmt:=top 31
abbrev Uc:Stmt:=top 32
abbrev Ud:Stmt:=top 33
abbrev Ue:Stmt:=top 35
abbrev TF:Stmt:=top 36
abbrev Uf:Stmt:=top 39
abbrev Ru:Stmt:=top 45
abbrev RL:Stmt:=top 60
abbrev S5:Stmt:=top 61
abbrev RM:Stmt:=top 62
abbrev R6:Stmt:=top 67
abbrev Rh:Stmt:=top 68
abbrev UJ:Stmt:=top 71
abbrev Rv:Stmt:=top 73
abbrev TH:Stmt:=top 77
abbrev Ug:Stmt:=top 79
abbrev RN:Stmt:=top 83
abbrev Q9:Stmt:=top 84
abbrev Ri:Stmt:=top 85
abbrev Si:Stmt:=top 86
abbrev Rw:Stmt:=top 87
abbrev Ra:Stmt:=top 88
abbrev Rj:Stmt:=top 90
abbrev RO:Stmt:=top 91
abbrev Q5:Stmt:=top 92
abbrev QV:Stmt:=top 93
abbrev Rb:Stmt:=top 94
abbrev R7:Stmt:=top 95
abbrev Ry:Stmt:=top 96
abbrev nZ:Stmt:=top 97
theorem fj{N P:List Str}{c:PySem.Scope}(a:c.kind=.function:=by rfl)(b:c.isCoroutine=false:=by rfl)(d:c.isGenerator=false:=by rfl)(e:N.Nodup:=by decide+kernel)(f:N.take P.length=P:=by rfl)(g:∀x∈P,c.names.lookup x=some .local\/c.names.lookup x=some .cell:=by decide+kernel)(h:∀y∈c.names,y.2≠.free:=by decide+kernel):au N P c:=⟨a,b,d,e,f,g,h⟩
theorem XJ:au ["piece"] ["piece"] (b8 R4):=fj
theorem gD:au ["row","before","place","piece"] ["row"] (b8 R5):=fj
theorem zxk:au ["piece"] ["piece"] (b8 UH):=fj
theorem sO:au ["row","place"] ["row"] (b8 S1):=fj
theorem gS:au ["one","other","great","small","rest"] ["one","other"] (b8 S4):=fj
theorem sP:au ["top","bottom","common"] ["top","bottom"] (b8 Ub):=fj
theorem zxl:au ["one","other"] ["one","other"] (b8 UI):=fj
theorem ZO:au ["one","other"] ["one","other"] (b8 Uc):=fj
theorem ZP:au ["one","other"] ["one","other"] (b8 Ud):=fj
theorem ZQ:au ["one","other"] ["one","other"] (b8 Ue):=fj
theorem uR:au ["one","other","least"] ["one","other"] (b8 TF):=fj
theorem oi:au ["some","result","one"] ["some"] (b8 Uf):=fj
theorem W4:au ["share"] ["share"] (b8 Ru):=fj
theorem Xp:au ["most"] ["most"] (b8 RL):=fj
theorem Yz:au ["text"] ["text"] (b8 S5):=fj
theorem Xq:au ["kind","most"] ["kind","most"] (b8 RM):=fj
theorem oh:au ["tree","name","line","one","told"] ["tree","name","line"] (b8 R6):=fj
theorem j8:au ["tree","name","line","told"] ["tree","name","line"] (b8 Rh):=fj
theorem zxm:au ["burst","rate"] ["burst","rate"] (b8 UJ):=fj
theorem kW:au ["senders","asked"] ["senders"] (b8 Rv):=fj
theorem Y8:au ["senders","heaps","moment","parts","outs","falls","time","after"] ["senders"] (b8 TH):=fj
theorem xm:au ["senders","parts"] ["senders"] (b8 Ug):=fj
theorem g8:au ["number","part","written"] ["number"] (b8 RN):=fj
theorem gU:au ["one","sign","top"] ["one"] (b8 Q9):=fj
theorem WN:au ["word","most"] ["word","most"] (b8 Ri):=fj
theorem X6:au ["word"] ["word"] (b8 Si):=fj
theorem kX:au ["word","bottom"] ["word"] (b8 Rw):=fj
theorem gT:au ["word","parts","one"] ["word"] (b8 Ra):=fj
theorem WO:au ["_law_script","_law_k"] ["_law_script","_law_k"] (b8 Rj):=fj
theorem fS:au ["_law_e","_law_found"] ["_law_e"] (b8 RO):=fj
theorem WB:au ["_law_which","_law_number"] ["_law_which","_law_number"] (b8 Q5):=fj
theorem iD:au ["_law_which","_law_number","_law_one"] ["_law_which","_law_number"] (b8 QV):=fj
theorem jP:au ["_law_which","_law_number","_law_tree"] ["_law_which","_law_number"] (b8 Rb):=fj
theorem iI:au ["_law_which","_law_number","_law_found","_law_e"] ["_law_which","_law_number"] (b8 R7):=fj
theorem fH:au ["_law_number","_law_found","_law_e"] ["_law_number"] (b8 Ry):=fj
theorem yP:au ["_law_script","_law_which","_law_found"] ["_law_script"] (b8 nZ):=fj
abbrev Rz:Stmt:=gY (top 15) 0
theorem W5:au ["self","place"] ["self","place"] (b8 Rz):=fj
abbrev RP:Stmt:=gY (top 16) 0
theorem Xr:au ["self","missing"] ["self","missing"] (b8 RP):=fj
abbrev Rk:Stmt:=gY (top 17) 0
theorem WP:au ["self","asked","given"] ["self","asked","given"] (b8 Rk):=fj
abbrev RA:Stmt:=gY (top 18) 0
theorem W6:au ["self","name"] ["self","name"] (b8 RA):=fj
abbrev RB:Stmt:=gY (top 42) 0
theorem W7:au ["self","depth","rate","start"] ["self","depth","rate","start"] (b8 RB):=fj
abbrev Rl:Stmt:=gY (top 42) 1
theorem j7:au ["self","at","grown"] ["self","at"] (b8 Rl):=fj
abbrev RQ:Stmt:=gY (top 42) 3
theorem mh:au ["self","at","length","rest"] ["self","at","length"] (b8 RQ):=fj
abbrev Rm:Stmt:=gY (top 46) 0
theorem WQ:au ["self"] ["self"] (b8 Rm):=fj
abbrev QO:Stmt:=gY (top 46) 1
theorem Wj:au ["self","name"] ["self","name"] (b8 QO):=fj
abbrev RC:Stmt:=gY (top 46) 2
theorem W8:au ["self","name","share"] ["self","name","share"] (b8 RC):=fj
abbrev Rn:Stmt:=gY (top 46) 3
theorem WR:au ["self","name"] ["self","name"] (b8 Rn):=fj
abbrev Q0:Stmt:=gY (top 46) 4
theorem Wt:au ["self","name","share"] ["self","name","share"] (b8 Q0):=fj
abbrev WT:Stmt:=gY (top 46) 5
abbrev Wu:Stmt:=gY (top 46) 6
abbrev Wk:Stmt:=gY (top 46) 7
abbrev W9:Stmt:=gY (top 46) 8
abbrev RD:Stmt:=gY (top 49) 0
theorem Xa:au ["self","most"] ["self","most"] (b8 RD):=fj
abbrev Ro:Stmt:=gY (top 49) 1
theorem WU:au ["self","name"] ["self","name"] (b8 Ro):=fj
abbrev Rp:Stmt:=gY (top 49) 2
theorem WV:au ["self","name"] ["self","name"] (b8 Rp):=fj
abbrev Rc:Stmt:=gY (top 49) 3
theorem WG:au ["self","name"] ["self","name"] (b8 Rc):=fj
abbrev QT:Stmt:=gY (top 48) 0
theorem Wl:au ["self","most"] ["self","most"] (b8 QT):=fj
abbrev RS:Stmt:=gY (top 48) 1
theorem Xs:au ["self","name","share"] ["self","name","share"] (b8 RS):=fj
abbrev RE:Stmt:=gY (top 48) 2
theorem Xb:au ["self","name"] ["self","name"] (b8 RE):=fj
abbrev Q6:Stmt:=gY (top 48) 3
theorem WC:au ["self","name","share"] ["self","name","share"] (b8 Q6):=fj
abbrev Xc:Stmt:=gY (top 48) 4
abbrev WD:Stmt:=gY (top 48) 5
abbrev Xu:Stmt:=gY (top 48) 6
abbrev Rg:Stmt:=gY (top 48) 7
theorem WH:au ["self","ready","name"] ["self","ready"] (b8 Rg):=fj
abbrev RG:Stmt:=gY (top 50) 0
theorem Xd:au ["self","most"] ["self","most"] (b8 RG):=fj
abbrev Rq:Stmt:=gY (top 50) 1
theorem WW:au ["self","name"] ["self","name"] (b8 Rq):=fj
abbrev Xe:Stmt:=gY (top 50) 2
abbrev Wv:Stmt:=gY (top 50) 3
abbrev WX:Stmt:=gY (top 50) 4
abbrev QU:Stmt:=gY (top 48) 0
theorem Wm:au ["self","most"] ["self","most"] (b8 QU):=fj
abbrev RT:Stmt:=gY (top 48) 1
theorem Xv:au ["self","name","share"] ["self","name","share"] (b8 RT):=fj
abbrev Xw:Stmt:=gY (top 48) 2
abbrev WJ:Stmt:=gY (top 48) 3
abbrev Xf:Stmt:=gY (top 48) 4
abbrev WE:Stmt:=gY (top 48) 5
abbrev Xx:Stmt:=gY (top 48) 6
abbrev R8:Stmt:=gY (top 63) 0
theorem XM:au ["self","above","chooser","room"] ["self","above","chooser","room"] (b8 R8):=fj
abbrev R9:Stmt:=gY (top 64) 0
theorem XN:au ["self","most","kind"] ["self","most","kind"] (b8 R9):=fj
abbrev QW:Stmt:=gY (top 64) 1
theorem Wo:au ["self","name"] ["self","name"] (b8 QW):=fj
abbrev Q2:Stmt:=gY (top 64) 2
theorem Ww:au ["self","name"] ["self","name"] (b8 Q2):=fj
abbrev QX:Stmt:=gY (top 64) 3
theorem Wp:au ["self","under","kind"] ["self","under","kind"] (b8 QX):=fj
abbrev Sj:Stmt:=gY (top 64) 4
theorem X7:au ["self","name","under","kind","share","room"] ["self","name","under","kind","share","room"] (b8 Sj):=fj
abbrev Sa:Stmt:=gY (top 64) 7
theorem XO:au ["self","name","depth","rate"] ["self","name","depth","rate"] (b8 Sa):=fj
abbrev RH:Stmt:=gY (top 64) 9
theorem Xg:au ["self","name"] ["self","name"] (b8 RH):=fj
abbrev Sb:Stmt:=gY (top 64) 10
theorem XQ:au ["self","name","length","number"] ["self","name","length"] (b8 Sb):=fj
abbrev RU:Stmt:=gY (top 64) 11
theorem jv:au ["self","at","start"] ["self","at"] (b8 RU):=fj
abbrev Sk:Stmt:=gY (top 64) 15
theorem X8:au ["self","name"] ["self","name"] (b8 Sk):=fj
abbrev XR:Stmt:=gY (top 64) 16
abbrev Q7:Stmt:=gY (top 64) 21
theorem gC:au ["self","name","names"] ["self","name"] (b8 Q7):=fj
abbrev QY:Stmt:=gY (top 64) 22
theorem Wq:au ["self"] ["self"] (b8 QY):=fj
abbrev QZ:Stmt:=gY (top 64) 25
theorem iC:au ["self","at"] ["self"] (b8 QZ):=fj
structure Txt(K:aa)(mg:Str->Option Value)(dI:Addr)(cW:Addr)(cO:Addr)(cQ:Addr)(dE:Addr)(cI:Addr)(cV:Addr)(cX:Addr)(cJ:Addr)(cK:Addr)(dF:Addr)(dA:Addr)(cY:Addr)(cA:Addr)(dC:Addr)(dG:Addr)(cG:Addr)(cD:Addr)(cH:Addr)(cF:Addr)(dD:Addr)(dB:Addr)(cZ:Addr)(dH:Addr):Prop where
 t9:mg "WheelError"=some (.ref dI)
 uo:XC K dI
 DB:ay K (.ref dI)=true
 Dw:aV K dI j3 "ValueError.__new__"=true
 sq:mg "NoRatio"=some (.ref cW)
 tE:XC K cW
 yz:ay K (.ref cW)=true
 yh:aV K cW j3 "ValueError.__new__"=true
 o7:mg "NoLine"=some (.ref cO)
 pH:XC K cO
 uI:ay K (.ref cO)=true
 uB:aV K cO j3 "ValueError.__new__"=true
 uL:mg "NoName"=some (.ref cQ)
 uT:XC K cQ
 AM:ay K (.ref cQ)=true
 Aw:aV K cQ j3 "ValueError.__new__"=true
 sD:mg "Taken"=some (.ref dE)
 tF:XC K dE
 wQ:ay K (.ref dE)=true
 wH:aV K dE j3 "ValueError.__new__"=true
 jZ:mg "NoClass"=some (.ref cI)
 iW:XC K cI
 mR:ay K (.ref cI)=true
 mQ:aV K cI j3 "ValueError.__new__"=true
 gR:mg "NoPlace"=some (.ref cV)
 gW:XC K cV
 iS:ay K (.ref cV)=true
 iQ:aV K cV j3 "ValueError.__new__"=true
 su:mg "NoShare"=some (.ref cX)
 mX:XC K cX
 yC:ay K (.ref cX)=true
 yi:aV K cX j3 "ValueError.__new__"=true
 jN:mg "NoCurb"=some (.ref cJ)
 iL:XC K cJ
 lC:ay K (.ref cJ)=true
 ly:aV K cJ j3 "ValueError.__new__"=true
 jg:mg "NoLength"=some (.ref cK)
 gc:XC K cK
 kR:ay K (.ref cK)=true
 kM:aV K cK j3 "ValueError.__new__"=true
 pR:mg "TooEarly"=some (.ref dF)
 pU:XC K dF
 wR:ay K (.ref dF)=true
 wI:aV K dF j3 "ValueError.__new__"=true
 nS:mg "NoneReady"=some (.ref dA)
 oB:XC K dA
 vt:ay K (.ref dA)=true
 vh:aV K dA j3 "ValueError.__new__"=true
 jO:mg "NoText"=some (.ref cY)
 lH:XC K cY
 lE:ay K (.ref cY)=true
 lA:aV K cY j3 "ValueError.__new__"=true
 o6:mg "BadRow"=some (.ref cA)
 iK:XC K cA
 AK:ay K (.ref cA)=true
 sy:mg "Short"=some (.ref dC)
 jQ:XC K dC
 Co:ay K (.ref dC)=true
 mV:mg "TooMuch"=some (.ref dG)
 fY:XC K dG
 yD:ay K (.ref dG)=true
 uK:mg "Curbed"=some (.ref cG)
 lG:XC K cG
 AL:ay K (.ref cG)=true
 AF:yf K cA "BadRow.__init__" Rz ["self","place"]
 qO:bX K cA "place"=some none
 qz:ai K (.ref cA) "place"=some none
 Cn:yf K dC "Short.__init__" RP ["self","missing"]
 pD:bX K dC "missing"=some none
 oV:ai K (.ref dC) "missing"=some none
 yy:yf K dG "TooMuch.__init__" Rk ["self","asked","given"]
 pF:bX K dG "asked"=some none
 oW:ai K (.ref dG) "asked"=some none
 pG:bX K dG "given"=some none
 oX:ai K (.ref dG) "given"=some none
 AH:yf K cG "Curbed.__init__" RA ["self","name"]
 sZ:bX K cG "name"=some none
 B6:ai K (.ref cG) "name"=some none
 yL:m7 K cW dI
 AV:m7 K cO dI
 AW:m7 K cQ dI
 Cu:m7 K dE dI
 yJ:m7 K cI dI
 yK:m7 K cV dI
 yM:m7 K cX dI
 AU:m7 K cJ dI
 wX:m7 K cK dI
 wZ:m7 K dF dI
 vz:m7 K dA dI
 AX:m7 K cY dI
 uO:m7 K cA dI
 wY:m7 K dC dI
 sE:m7 K dG dI
 AS:m7 K cG dI
 Wi:([dI,cW,cO,cQ,dE,cI,cV,cX,cJ,cK,dF,dA,cY,cA,dC,dG,cG]:List Addr).Nodup
 vC:mg "enumerate"=none
 yO:mg "abs"=none
 Cy:mg "all"=none
 sJ:mg "len"=none
 w4:mg "reversed"=none
 CA:mg "str"=none
 GX:mg "int"=none
 bg:mg "isinstance"=none
 ua:mg "ValueError"=none
 Cz:mg "range"=none
 LF:mg "list"=none
 NJ:mg "sum"=none
 GZ:mg "min"=none
 GY:mg "max"=none
 pQ:∃t,mg "GREATEST"=some (.int 1000000 t)
 r8:∃t,mg "LAST_SENDER"=some (.int 11 t)
 AQ:∃t,mg "LATEST"=some (.int 1000000000000 t)
 sf:∃t,mg "MOST_PIECES"=some (.int 60 t)
 nR:∃t,mg "GREATEST_SHARE"=some (.int 1000000 t)
 mU:∃t,mg "GREATEST_LENGTH"=some (.int 1000000 t)
 yI:∃t,mg "LETTERS"=some (.str (Str.ofString "abcdefghijklmnopqrstuvwxyz") t)
 qF:∃t,mg "LONGEST_NAME"=some (.int 8 t)
 nP:∃t,mg "GREATEST_BURST"=some (.int 1000000000000 t)
 yH:∃t,mg "FIGURES"=some (.str (Str.ofString "0123456789") t)
 eM:∃t,mg "MOST_FRACTION_FIGURES"=some (.int 40 t)
 zD:∃t,mg "ROAD"=some (.str (Str.ofString "road") t)
 kT:∃a,mg "INNER_KINDS"=some (.ref a)/\∀H,p9 K H a [.str (Str.ofString "starts"),.str (Str.ofString "rounds")]
 r9:∃t,mg "LONGEST_WAY"=some (.int 5 t)
 zB:∃t,mg "LEAF"=some (.str (Str.ofString "leaf") t)
 nQ:∃t,mg "GREATEST_DEPTH"=some (.int 1000000000000 t)
 ug:jF K mg "in_ranges" R4 ["piece"]
 ue:jF K mg "first_bad" R5 ["row"]
 CZ:jF K mg "anew" UH ["piece"]
 xu:jF K mg "checked" S1 ["row"]
 xw:jF K mg "divisor" S4 ["one","other"]
 A5:jF K mg "ratio" Ub ["top","bottom"]
 C5:jF K mg "plus" UI ["one","other"]
 A3:jF K mg "minus" Uc ["one","other"]
 A6:jF K mg "times" Ud ["one","other"]
 A8:jF K mg "under" Ue ["one","other"]
 yU:jF K mg "lesser" TF ["one","other"]
 A7:jF K mg "total" Uf ["some"]
 qJ:jF K mg "check_share" Ru ["share"]
 sR:jF K mg "check_most" RL ["most"]
 xx:jF K mg "is_name" S5 ["text"]
 sS:jF K mg "chooser_of" RM ["kind","most"]
 uf:jF K mg "floor_for" R6 ["tree","name","line"]
 pq:jF K mg "longest_wait" Rh ["tree","name","line"]
 C0:jF K mg "line" UJ ["burst","rate"]
 qI:jF K mg "check_rates" Rv ["senders"]
 yT:jF K mg "course" TH ["senders"]
 A4:jF K mg "piles" Ug ["senders"]
 sU:jF K mg "figures_of" RN ["number"]
 oq:jF K mg "show_fraction" Q9 ["one"]
 pA:jF K mg "read_figures" Ri ["word","most"]
 vK:jF K mg "read_top" Si ["word"]
 qK:jF K mg "read_bottom" Rw ["word"]
 om:jF K mg "read_fraction" Ra ["word"]
 pe:jF K mg "_law_cell_at" Rj ["_law_script","_law_k"]
 sQ:jF K mg "_law_kinds" RO ["_law_e"]
 mW:jF K mg "_law_of_stages" Q5 ["_law_which","_law_number"]
 kY:jF K mg "_law_of_choosers" QV ["_law_which","_law_number"]
 oj:jF K mg "_law_of_trees" Rb ["_law_which","_law_number"]
 ud:jF K mg "_law_kind" R7 ["_law_which","_law_number"]
 qH:jF K mg "_law_fields" Ry ["_law_number"]
 lF:mg "Bucket"=some (.ref cD)
 ee:uW K cD
 j4:bK K cD "depth"
 kU:bK K cD "rate"
 iu:bK K cD "since"
 iT:bK K cD "left"
 AG:nD K cD "Bucket.__init__" RB ["self","depth","rate","start"] [[],[V.int 0]]
 qA:d8 K cD "level" "Bucket.level" Rl ["self","at"] [[]]
 tY:d8 K cD "pay" "Bucket.pay" RQ ["self","at","length"] [[]]
 sj:mg "Members"=some (.ref cH)
 dW:uW K cH
 dS:bK K cH "shares"
 yx:nD K cH "Members.__init__" Rm ["self"] [[]]
 kA:d8 K cH "check_name" "Members.check_name" QO ["self","name"] [[]]
 rX:d8 K cH "put" "Members.put" RC ["self","name","share"] [[]]
 qB:d8 K cH "take" "Members.take" Rn ["self","name"] [[]]
 mS:d8 K cH "reshare" "Members.reshare" Q0 ["self","name","share"] [[]]
 AN:d8 K cH "names" "Members.names" WT ["self"] [[]]
 xP:d8 K cH "share_of" "Members.share_of" Wu ["self","name"] [[]]
 we:d8 K cH "all_shares" "Members.all_shares" Wk ["self"] [[]]
 Bv:d8 K cH "part" "Members.part" W9 ["self","name"] [[]]
 r6:mg "Chooser"=some (.ref cF)
 uM:mg "Starts"=some (.ref dD)
 bI:uW K dD
 nT:bK K dD "reached"
 iV:bK K dD "tags"
 eN:bK K dD "greatest_steps"
 sH:bK K dD "most"
 fC:bK K dD "members"
 o9:bK K dD "chosen"
 AJ:nD K dD "Starts.__init__" RD ["self","most"] [[]]
 qD:d8 K dD "enter" "Starts.enter" Ro ["self","name"] [[]]
 qE:d8 K dD "leave" "Starts.leave" Rp ["self","name"] [[]]
 o4:d8 K dD "fit_in" "Starts.fit_in" Rc ["self","name"] [[]]
 k7:BR K cF "__init__" "Chooser.__init__" QT ["self","most"]
 t7:d8 K dD "put" "Chooser.put" RS ["self","name","share"] [[]]
 rY:d8 K dD "take" "Chooser.take" RE ["self","name"] [[]]
 nN:d8 K dD "reshare" "Chooser.reshare" Q6 ["self","name","share"] [[]]
 By:d8 K dD "names" "Chooser.names" Xc ["self"] [[]]
 yG:d8 K dD "share_of" "Chooser.share_of" WD ["self","name"] [[]]
 Ct:d8 K dD "part" "Chooser.part" Xu ["self","name"] [[]]
 oZ:d8 K dD "choose" "Chooser.choose" Rg ["self","ready"] [[]]
 AR:mg "Rounds"=some (.ref dB)
 eU:uW K dB
 j5:bK K dB "queue"
 j6:bK K dB "rests"
 sG:bK K dB "turn"
 sF:bK K dB "most"
 jh:bK K dB "members"
 o8:bK K dB "chosen"
 AI:nD K dB "Rounds.__init__" RG ["self","most"] [[]]
 qC:d8 K dB "enter" "Rounds.enter" Rq ["self","name"] [[]]
 Bw:d8 K dB "leave" "Rounds.leave" Xe ["self","name"] [[]]
 xQ:d8 K dB "full_rest" "Rounds.full_rest" Wv ["self","name"] [[]]
 AO:d8 K dB "fit_in" "Rounds.fit_in" WX ["self","name"] [[]]
 k6:BR K cF "__init__" "Chooser.__init__" QU ["self","most"]
 tZ:d8 K dB "put" "Chooser.put" RT ["self","name","share"] [[]]
 Cs:d8 K dB "take" "Chooser.take" Xw ["self","name"] [[]]
 zA:d8 K dB "reshare" "Chooser.reshare" WJ ["self","name","share"] [[]]
 Bx:d8 K dB "names" "Chooser.names" Xf ["self"] [[]]
 yF:d8 K dB "share_of" "Chooser.share_of" WE ["self","name"] [[]]
 Cr:d8 K dB "part" "Chooser.part" Xx ["self","name"] [[]]
 zC:mg "Node"=some (.ref cZ)
 fJ:uW K cZ
 l8:bK K cZ "above"
 fc:bK K cZ "chooser"
 vA:bK K cZ "room"
 iU:bK K cZ "bucket"
 l9:bK K cZ "queue"
 Em:nD K cZ "Node.__init__" R8 ["self","above","chooser","room"] [[],[V.non]]
 Es:mg "Tree"=some (.ref dH)
 aS:uW K dH
 iH:bK K dH "most"
 bN:bK K dH "nodes"
 gA:bK K dH "time"
 nU:bK K dH "free"
 qG:bK K dH "counted"
 vB:bK K dH "gone"
 En:nD K dH "Tree.__init__" R9 ["self","most","kind"] [[],[V.str (Str.ofString "starts")]]
 lU:d8 K dH "check_class" "Tree.check_class" QW ["self","name"] [[]]
 mT:d8 K dH "check_leaf" "Tree.check_leaf" Q2 ["self","name"] [[]]
 lV:d8 K dH "check_place" "Tree.check_place" QX ["self","under","kind"] [[]]
 wV:d8 K dH "put" "Tree.put" Sj ["self","name","under","kind","share","room"] [[],[V.non]]
 vy:d8 K dH "curb" "Tree.curb" Sa ["self","name","depth","rate"] [[]]
 rZ:d8 K dH "curbed" "Tree.curbed" RH ["self","name"] [[]]
 vv:d8 K dH "come" "Tree.come" Sb ["self","name","length"] [[]]
 t8:d8 K dH "until" "Tree.until" RU ["self","at"] [[]]
 wW:d8 K dH "way" "Tree.way" Sk ["self","name"] [[]]
 DC:d8 K dH "below" "Tree.below" XR ["self","name"] [[]]
 nO:d8 K dH "from_road" "Tree.from_road" Q7 ["self","name"] [[]]
 lW:d8 K dH "full_leaves" "Tree.full_leaves" QY ["self"] [[]]
 lX:d8 K dH "next_choice" "Tree.next_choice" QZ ["self"] [[]]
section
variable{P:Program}{w:World}{K:aa}{mg:Str->Option Value}{base:Heap}{dI cW cO cQ dE cI cV cX cJ cK dF dA cY cA dC dG cG cD cH cF dD dB cZ dH:Addr}
variable(P w base)
variable(T:Txt K mg dI cW cO cQ dE cI cV cX cJ cK dF dA cY cA dC dG cG cD cH cF dD dB cZ dH)
local macro_rules| `(tactic|walk_at"rdc")=>`(tactic|(walk_at"rd";(try simp only[L2.C9,L2.FP]);walk_at"rd"))
include T in
theorem Y9:ko P w K mg base (eK P w) 1 "divisor" ["one","other"] (vI Sw.dv):=by
 refine T.xw.okN (k:=0) gS (fun vs H Q E h=>?_) (fun f bL A outer s H vs Q E hr h=>?_)
 ·obtain⟨a,b,rfl,_⟩:=h;rfl
 ·obtain⟨a,b,rfl,k⟩:=h;refine⟨_,(bJ (jR (i:=2) gS.nd rfl (oJ OJ rfl T.yO boot_abs (az (pv 0) aO))) (bJ (jR (i:=3) gS.nd rfl (oJ OJ rfl T.yO boot_abs (az (pv 1) aO))) (bJ (Ma PassesOwn.never (iw w6 (pv 3) aW (iq _)) (bJ (jR (i:=4) gS.nd rfl (bj tI (pv 2) (pv 3))) (bJ (jR (i:=2) gS.nd rfl (pv 3)) (bR (jR (i:=3) gS.nd rfl (pv 4)))))) (bR (ki (pv 2)))))),?_⟩;refine⟨_,rfl,a,rfl,?_⟩;refine⟨_,rfl,b,rfl,?_⟩;refine SD (fun σ H'=>H'=H/\∃g s r,σ=[some (.int a),some (.int b),some (.int g),some (.int s),r]/\0<=g/\0<=s/\Sw.dv g s=Sw.dv a b)
   (fun σ _=>match σ with|[_,_,_,some (.int s),_]=>s.toNat|_=>0) ⟨rfl,_,_,none,rfl,?_,?_,Sw.Gs a b⟩ ?_
  ·split <;> omega
  ·split <;> omega
  ·rintro σ H' ⟨rfl,g,s,r,rfl,hg,hs,e⟩;refine⟨!decide (V.int s=V.int 0),fun Q hQ=>⟨_,rfl,rfl,_,rfl,hQ⟩,fun hb=>?_,fun hb=>?_⟩
   ·have Ii:s≠0:=by intro z;subst z;simp at hb
    have m8:0<s:=by omega
    refine⟨_,rfl,_,rfl,_,_,rfl,rfl,m8,?_⟩;refine⟨_,rfl,?_⟩;refine⟨_,rfl,?_⟩;refine⟨⟨rfl,s,g % s,_,rfl,hs,bZ g Ii,by rw[Sw.Ea];exact e⟩,?_⟩;show(g % s).toNat<s.toNat;have:=bM g m8;have:=bZ g Ii;omega
   ·have Ii:s=0:=by
     have:V.int s=V.int 0:=by simpa using hb
     exact V.int.inj this
    subst Ii;rw[Sw.Eb g hg]at e;refine⟨_,rfl,?_⟩;show Q (.int g) H';rw[e];exact k
inductive FG(cN:Addr)(vs:List V)(H:Hp)(Q:VK)(E:XK):Prop|mk (t b z:_) (h1:vs=[.int t,.int b]) (h2:z<=5000) (h3:Sw.Sz z b) (h4:(b≠0->∀p,H p=none->Q (.ref p) (aB H p (.tup (fq ((t:Rat) / (b:Rat))))))) (h5:(b=0->∀e,H e=none->E (.ref e) none (aB H e (b7 e cN none false)))):FG cN vs H Q E
include T in
theorem DK:ko P w K mg base (eK P w) 2 "ratio" ["top","bottom"] (FG cW):=by
 have Ah:=Y9 P w base T;refine T.A5.jS (k:=1) sP (fun vs H Q E h=>?_) (fun f bL A outer s H vs Q E hr h=>?_)
 ·obtain⟨t,b,z,rfl,_⟩:=h;rfl
 ·obtain⟨t,b,z,rfl,z5,sb,k,kx⟩:=h;refine⟨_,(bJ (bC (iw fh (pv 1) aW (iq _)) (bR (mw K rfl rfl mC (oK T.yh T.yz rfl T.sq (az gg aO)))) gX) (bJ (jR (i:=2) sP.nd rfl (gE Ah (hr.mono (by decide)) rfl aR (az (pv 0) (az (pv 1) aO)))) (bJ (bC (iw nW (pv 1) aW (iq _)) (bR (jR (i:=2) sP.nd rfl (zH Mw (pv 2)))) gX) (bR (ki (jH (az (bj Te (pv 0) (pv 2)) (az (bj Te (pv 1) (pv 2)) aO)))))))),?_⟩;show c9 _ _ _ [some (.int t),some (.int b),none] H;walk_at"s";refine cy (fun h0=>?_) fun hb=>hR _ _ ?_
  ·refine fun e he=>⟨cW,none,bh,T.tE,?_⟩;rw[wj];exact kx h0 e he
  have k:=k hb;rw[<-Pd hb]at k;have hg:0<Sw.dv t b:=Sw.vf hb;have hz:Sw.Sz 5000 (Sw.dv t b):=(sb.dvd (Sw.qq t b) hb).mono z5;walk_at"s";refine hR _ _ ?_;refine bU fun R hR=>?_;have gM:∀c:Int,(c=Sw.dv t b/\¬b<0)\/(c= -(Sw.dv t b)/\b<0)->R [some (.int t),some (.int b),some (.int c)] H:=fun c hc=>by
   refine hR _ _ ?_;walk_at"rd";have c0:c≠0:=by rcases hc with⟨e,_⟩ |⟨e,_⟩ <;> omega
   have cz:Sw.Sz 5000 c:=by
    rcases hc with⟨e,_⟩ |⟨e,_⟩
    ·rw[e];exact hz
    ·rw[e];exact hz.neg
   have d1:c∣t:=by
    rcases hc with⟨e,_⟩ |⟨e,_⟩
    ·rw[e];exact Sw.ve t b
    ·rw[e];exact uu.mpr (Sw.ve t b)
   have d2:c∣b:=by
    rcases hc with⟨e,_⟩ |⟨e,_⟩
    ·rw[e];exact Sw.qq t b
    ·rw[e];exact uu.mpr (Sw.qq t b)
   have e1:t.fdiv c=Sw.rN t b:=by
    rw[ze d1];unfold Sw.rN;rcases hc with⟨e,q⟩ |⟨e,q⟩
    ·rw[if_neg q,e]
    ·rw[if_pos q,e]
   have e2:b.fdiv c=Sw.rD t b:=by
    rw[ze d2];unfold Sw.rD;rcases hc with⟨e,q⟩ |⟨e,q⟩
    ·rw[if_neg q,e]
    ·rw[if_pos q,e]
   rw[e1,e2];exact⟨⟨c0,cz⟩,⟨c0,cz⟩,k⟩
  walk_at"rds";exact cy (fun c=>gM _ (.inr ⟨rfl,c⟩)) fun c=>gM _ (.inl ⟨rfl,c⟩)
inductive CV(vs:List V)(H:Hp)(Q:VK)(E:XK):Prop|mk (p q a b z:_) (h1:vs=[.ref p,.ref q]) (h2:H p=some (.tup (fq a))) (h3:H q=some (.tup (fq b))) (h4:z<=2500) (h5:Sw.fM z a) (h6:Sw.fM z b) (h7:∀r,H r=none->Q (.ref r) (aB H r (.tup (fq (a+b))))):CV vs H Q E
include T in
theorem UK:ko P w K mg base (eK P w) 3 "plus" ["one","other"] CV:=by
 have dR:=DK P w base T;refine T.C5.okN (k:=2) zxl (fun vs H Q E h=>?_) (fun f bL A outer s H vs Q E hr h=>?_)
 ·obtain⟨p,q,a,b,z,rfl,_⟩:=h;rfl
 ·obtain⟨p,q,a,b,z,rfl,hp,hq,hz,s1,s2,k⟩:=h;refine⟨_,(bR (ki (gE dR (hr.mono (by decide)) rfl eo (az (bj Dg (bj DJ (bE (jy K rfl) (pv 0) aW (fun _ _=>rfl)) (bE (jy K rfl) (pv 1) aW (fun _ _=>rfl))) (bj DJ (bE (jy K rfl) (pv 1) aW (fun _ _=>rfl)) (bE (jy K rfl) (pv 0) aW (fun _ _=>rfl)))) (az (bj DJ (bE (jy K rfl) (pv 0) aW (fun _ _=>rfl)) (bE (jy K rfl) (pv 1) aW (fun _ _=>rfl))) aO))))),?_⟩;show qL _ _ [some (.ref p),some (.ref q)] H;have Jl:=gF (Sw.dj a) (Sw.dj b);walk_at"rd";refine j0 (.of hp) rfl (j0 (.of hq) rfl ?_);walk_at"rd";refine⟨⟨s1.n.mono (by omega),s2.d.mono (by omega)⟩,j0 (.of hq) rfl (j0 (.of hp) rfl ?_)⟩;walk_at"rd";refine⟨⟨s2.n.mono (by omega),s1.d.mono (by omega)⟩,j0 (.of hp) rfl (j0 (.of hq) rfl ?_)⟩;walk_at"rd";refine⟨⟨s1.d.mono (by omega),s2.d.mono (by omega)⟩,_,_,z+z,rfl,by omega,s1.d.mul s2.d,fun _=>?_,fun z=>absurd z Jl⟩;rw[Sw.E1];exact k
inductive zQ(vs:List V)(H:Hp)(Q:VK)(E:XK):Prop|mk (p q a b z:_) (h1:vs=[.ref p,.ref q]) (h2:H p=some (.tup (fq a))) (h3:H q=some (.tup (fq b))) (h4:z<=2400) (h5:Sw.fM z a) (h6:Sw.fM z b) (h7:∀r,H r=none->Q (.ref r) (aB H r (.tup (fq (a-b))))):zQ vs H Q E
include T in
theorem zxn:ko P w K mg base (eK P w) 3 "minus" ["one","other"] zQ:=by
 have dR:=DK P w base T;refine T.A3.okN (k:=2) ZO (fun vs H Q E h=>?_) (fun f bL A outer s H vs Q E hr h=>?_)
 ·obtain⟨p,q,a,b,z,rfl,_⟩:=h;rfl
 ·obtain⟨p,q,a,b,z,rfl,hp,hq,hz,s1,s2,k⟩:=h;refine⟨_,(bR (ki (gE dR (hr.mono (by decide)) rfl eo (az (bj Pb (bj DJ (bE (jy K rfl) (pv 0) aW (fun _ _=>rfl)) (bE (jy K rfl) (pv 1) aW (fun _ _=>rfl))) (bj DJ (bE (jy K rfl) (pv 1) aW (fun _ _=>rfl)) (bE (jy K rfl) (pv 0) aW (fun _ _=>rfl)))) (az (bj DJ (bE (jy K rfl) (pv 0) aW (fun _ _=>rfl)) (bE (jy K rfl) (pv 1) aW (fun _ _=>rfl))) aO))))),?_⟩;show qL _ _ [some (.ref p),some (.ref q)] H;have Jl:=gF (Sw.dj a) (Sw.dj b);walk_at"rd";refine j0 (.of hp) rfl (j0 (.of hq) rfl ?_);walk_at"rd";refine⟨⟨s1.n.mono (by omega),s2.d.mono (by omega)⟩,j0 (.of hq) rfl (j0 (.of hp) rfl ?_)⟩;walk_at"rd";refine⟨⟨s2.n.mono (by omega),s1.d.mono (by omega)⟩,j0 (.of hp) rfl (j0 (.of hq) rfl ?_)⟩;walk_at"rd";refine⟨⟨s1.d.mono (by omega),s2.d.mono (by omega)⟩,_,_,z+z,rfl,by omega,s1.d.mul s2.d,fun _=>?_,fun z=>absurd z Jl⟩;rw[Sw.FO];exact k
inductive zU(vs:List V)(H:Hp)(Q:VK)(E:XK):Prop|mk (p q a b z:_) (h1:vs=[.ref p,.ref q]) (h2:H p=some (.tup (fq a))) (h3:H q=some (.tup (fq b))) (h4:z<=2400) (h5:Sw.fM z a) (h6:Sw.fM z b) (h7:∀r,H r=none->Q (.ref r) (aB H r (.tup (fq (a*b))))):zU vs H Q E
include T in
theorem zxo:ko P w K mg base (eK P w) 3 "times" ["one","other"] zU:=by
 have dR:=DK P w base T;refine T.A6.okN (k:=2) ZP (fun vs H Q E h=>?_) (fun f bL A outer s H vs Q E hr h=>?_)
 ·obtain⟨p,q,a,b,z,rfl,_⟩:=h;rfl
 ·obtain⟨p,q,a,b,z,rfl,hp,hq,hz,s1,s2,k⟩:=h;refine⟨_,(bR (ki (gE dR (hr.mono (by decide)) rfl eo (az (bj DJ (bE (jy K rfl) (pv 0) aW (fun _ _=>rfl)) (bE (jy K rfl) (pv 1) aW (fun _ _=>rfl))) (az (bj DJ (bE (jy K rfl) (pv 0) aW (fun _ _=>rfl)) (bE (jy K rfl) (pv 1) aW (fun _ _=>rfl))) aO))))),?_⟩;show qL _ _ [some (.ref p),some (.ref q)] H;have Jl:=gF (Sw.dj a) (Sw.dj b);walk_at"rd";refine j0 (.of hp) rfl (j0 (.of hq) rfl ?_);walk_at"rd";refine⟨⟨s1.n.mono (by omega),s2.n.mono (by omega)⟩,j0 (.of hp) rfl (j0 (.of hq) rfl ?_)⟩;walk_at"rd";refine⟨⟨s1.d.mono (by omega),s2.d.mono (by omega)⟩,_,_,z+z,rfl,by omega,s1.d.mul s2.d,fun _=>?_,fun z=>absurd z Jl⟩;rw[Sw.Fj];exact k
inductive zW(vs:List V)(H:Hp)(Q:VK)(E:XK):Prop|mk (p q a b:_) (h1:vs=[.ref p,.ref q]) (h2:H p=some (.tup (fq a))) (h3:H q=some (.tup (fq b))) (h4:Sw.fM 5000 a) (h5:Sw.fM 5000 b) (h6:Q (.bl (decide (a<b))) H):zW vs H Q E
include T in
theorem K7:ko P w K mg base (eK P w) 1 "under" ["one","other"] zW:=by
 refine T.A8.okN (k:=0) ZQ (fun vs H Q E h=>?_) (fun f bL A outer s H vs Q E hr h=>?_)
 ·obtain⟨p,q,a,b,rfl,_⟩:=h;rfl
 ·obtain⟨p,q,a,b,rfl,hp,hq,s1,s2,k⟩:=h;refine⟨_,(bR (ki (K1 nW (bj DJ (bE (jy K rfl) (pv 0) aW (fun _ _=>rfl)) (bE (jy K rfl) (pv 1) aW (fun _ _=>rfl))) (bj DJ (bE (jy K rfl) (pv 1) aW (fun _ _=>rfl)) (bE (jy K rfl) (pv 0) aW (fun _ _=>rfl))) (iq _)))),?_⟩;show qL _ _ [some (.ref p),some (.ref q)] H;walk_at"rd";refine j0 (.of hp) rfl (j0 (.of hq) rfl ?_);walk_at"rd";refine⟨⟨s1.n,s2.d⟩,j0 (.of hq) rfl (j0 (.of hp) rfl ?_)⟩;walk_at"rd";refine⟨⟨s2.n,s1.d⟩,?_⟩;rw[show decide (a.num*(b.den:Int)<b.num*(a.den:Int))=decide (a<b)from decide_eq_decide.mpr Sw.JX];exact k
inductive xq(vs:List V)(H:Hp)(Q:VK)(E:XK):Prop|mk (p q a b:_) (h1:vs=[.ref p,.ref q]) (h2:H p=some (.tup (fq a))) (h3:H q=some (.tup (fq b))) (h4:Sw.fM 5000 a) (h5:Sw.fM 5000 b) (h6:∀r,H r=none->Q (.ref r) (aB H r (.tup (fq (min a b))))):xq vs H Q E
include T in
theorem ZR:ko P w K mg base (eK P w) 2 "lesser" ["one","other"] xq:=by
 have iE:=K7 P w base T;refine T.yU.okN (k:=1) uR (fun vs H Q E h=>?_) (fun f bL A outer s H vs Q E hr h=>?_)
 ·obtain⟨p,q,a,b,rfl,_⟩:=h;rfl
 ·obtain⟨p,q,a,b,rfl,hp,hq,s1,s2,k⟩:=h;refine⟨_,(bJ (jR (i:=2) uR.nd rfl (L8 (Bd (gE iE (hr.mono (by decide)) rfl eo (az (pv 1) (az (pv 0) aO)))) (pv 1) (pv 0))) (bR (ki (jH (az (bE (jy K rfl) (pv 2) aW (fun _ _=>rfl)) (az (bE (jy K rfl) (pv 2) aW (fun _ _=>rfl)) aO)))))),?_⟩;show c9 _ _ _ [some (.ref p),some (.ref q),none] H;refine bU fun R hR=>?_;have key:∀x c,H x=some (.tup (fq c))->c=min a b->R [some (.ref p),some (.ref q),some (.ref x)] H:=fun x c hx e=>by refine hR _ _ ?_;walk_at"rd";subst e;exact j0 (.of hx) rfl (j0 (.of hx) rfl k)
  walk_at"rd";refine⟨q,p,b,a,rfl,hq,hp,s2,s1,?_⟩;walk_at"rd";exact cy (fun h=>key q b hq (by rw[uv];grind)) fun h=>key p a hp (by rw[uv];grind)
inductive zV(vs:List V)(H:Hp)(Q:VK)(E:XK):Prop|mk (l ps qs:_) (h1:vs=[.ref l]) (h2:Pn fq H l ps qs) (h3:(∀i,Sw.fM 1200 (Sw.tq (qs.take i)))) (h4:(∀q∈qs,Sw.fM 1200 q)) (h5:∀r H',aQ H H'->H' r=some (.tup (fq (Sw.tq qs)))->Q (.ref r) H'):zV vs H Q E
include T in
theorem zxp:ko P w K mg base (eK P w) 4 "total" ["some"] zV:=by
 have dR:=DK P w base T;have xV:=UK P w base T;refine T.A7.okN (k:=3) oi (fun vs H Q E h=>?_) (fun f bL A outer s H vs Q E hr h=>?_)
 ·obtain⟨l,ps,qs,rfl,_⟩:=h;rfl
 ·obtain⟨l,ps,qs,rfl,L,st,sz,k⟩:=h;refine⟨_,(bJ (jR (i:=1) oi.nd rfl (gE dR (hr.mono (by decide)) rfl eo (az aW (az aW aO)))) (bJ (Mv PassesOwn.never rfl (Iu K rfl (pv 0)) (Ac (i:=2) oi.nd rfl (by first|left;rfl|right;rfl)) (bR (jR (i:=1) oi.nd rfl (gE xV (hr.mono (by decide)) rfl eo (az (pv 1) (az (pv 2) aO)))))) (bR (ki (pv 1))))),?_⟩;show c9 _ _ _ [some (.ref l),none,none] H;walk_at"s";refine⟨_,_,70,rfl,by decide,Sw.Sz.Wd (by decide) (by decide),fun _ pm fm=>hR _ _ ?_,fun z=>absurd z (by decide)⟩;rw[MV];refine bU fun R hR=>?_;refine OM fun Z hZ=>?_;walk_at"rd";have n1:=dZ (o:=.tup (fq 0)) fm;refine⟨⟨_,.of (n1 _ _ L.hl)⟩,hZ _ _ ?_⟩;refine S8 (K:=K) (a:=l) (xs:=ps.map V.ref) (fun i σ H'=>aQ H H'/\∃x v,σ=[some (.ref l),some (.ref x),v]/\H' x=some (.tup (fq (Sw.tq (qs.take i))))) ⟨n1,pm,none,rfl,bh⟩ (fun i σ H' _ q=>.of (q.1 _ _ L.hl)) ?_ ?_
  ·rintro i v σ H1 hv ⟨sm,x,v2,rfl,hx⟩;obtain⟨p,hp,rfl⟩:∃p,ps[i]?=some p/\V.ref p=v:=by simpa using hv
   obtain⟨q,hq,AD⟩:=SJ L.r hp;have zq:=sz q (fL hq);show yX _ _ _ [some (.ref l),some (.ref x),some (.ref p)] H1;refine O7 fun R' M3=>?_;walk_at"rd";refine⟨x,p,_,q,1200,rfl,hx,sm _ _ AD,by decide,st i,zq,fun r kQ=>M3 _ _ ?_⟩;refine⟨sm.trans (dZ kQ),r,_,rfl,?_⟩;rw[bh,Ou hq,Sw.EL]
  ·rintro σ H1 ⟨sm,x,v2,rfl,hx⟩;refine hR _ _ ?_;walk_at"rd";have ln:=SI L.r;rw[b6 (by rw[aj,ln];exact ao _)]at hx;exact k x H1 sm hx
include T in
theorem zxq:HP P w K mg base (eK P w) 1 dC ["self","missing"] (EB dC "missing"):=by
 refine T.Cn.ok (k:=0) Xr (fun vs H Q E h=>?_) (fun f bL A outer s H vs Q E hr h=>?_)
 ·obtain⟨e,y,rfl,_⟩:=h;rfl
 ·obtain⟨e,y,rfl,he,k⟩:=h;exact⟨_,(bR (K3 K rfl (pv 0) (pv 1) rfl)),Ci he T.jQ T.pD k⟩
include T in
theorem Za:HP P w K mg base (eK P w) 1 dG ["self","asked","given"] (Hj dG "asked" "given"):=by
 refine T.yy.ok (k:=0) WP (fun vs H Q E h=>?_) (fun f bL A outer s H vs Q E hr h=>?_)
 ·obtain⟨e,y,z,rfl,_⟩:=h;rfl
 ·obtain⟨e,y,z,rfl,he,k⟩:=h;exact⟨_,(bJ (K3 K rfl (pv 0) (pv 1) rfl) (bR (K3 K rfl (pv 0) (pv 2) rfl))),JA he T.fY T.pF T.pG (by decide+kernel) k⟩
include T in
theorem ZS:HP P w K mg base (eK P w) 1 cG ["self","name"] (EB cG "name"):=by
 refine T.AH.ok (k:=0) W6 (fun vs H Q E h=>?_) (fun f bL A outer s H vs Q E hr h=>?_)
 ·obtain⟨e,y,rfl,_⟩:=h;rfl
 ·obtain⟨e,y,rfl,he,k⟩:=h;exact⟨_,(bR (K3 K rfl (pv 0) (pv 1) rfl)),Ci he T.lG T.sZ k⟩
inductive EA(cN C:Addr)(vs:List V)(H:Hp)(Q:VK)(E:XK):Prop|mk (x dx d pr r s:_) (h1:vs=[.ref x,.int d,.ref pr,.int s]) (h2:H x=some (.ins C dx [])) (h3:H pr=some (.tup (fq r))) (h4:Sw.fM 5000 r) (h5:(1<=d/\0<=r->∀H',qR x H H'->Bk C H' x d r s (d:Rat)->Q .non H')) (h6:(¬(1<=d/\0<=r)->∀e H1,aQ H H1->H1 e=none->E (.ref e) none (aB H1 e (b7 e cN none false)))):EA cN C vs H Q E
include T in
theorem OT:Dj P w K mg base (eK P w) 3 cD ["self","depth","rate","start"] [[],[V.int 0]] (EA cJ cD):=by
 have iE:=K7 P w base T;have dR:=DK P w base T;refine T.AG.jS (k:=2) W7 (fun vs H Q E h=>?_) (fun f bL A outer s H vs Q E hr h=>?_)
 ·obtain⟨x,dx,d,pr,r,s,rfl,_⟩:=h;rfl
 ·obtain⟨x,dx,d,pr,r,st,rfl,hx,wd,sr,k,kx⟩:=h;refine⟨_,(bJ (bC (iw nW (pv 1) aW (iq _)) (bR (mw K rfl rfl mC (oK T.ly T.lC rfl T.jN (az gg aO)))) gX) (bJ (bC (Bd (gE iE (hr.mono (by decide)) rfl aR (az (pv 2) (az (jH (az aW (az aW aO))) aO)))) (bR (mw K rfl rfl mC (oK T.ly T.lC rfl T.jN (az gg aO)))) gX) (bJ (mz (pv 0) (pv 1) rfl) (bJ (mz (pv 0) (pv 2) rfl) (bJ (mz (pv 0) (pv 3) rfl) (bR (mz (pv 0) (gE dR (hr.mono (by decide)) rfl aR (az (pv 1) (az aW aO))) rfl))))))),?_⟩;show c9 _ _ _ [some (.ref x),some (.int d),some (.ref pr),some (.int st)] H;refine bU fun R hR=>?_;have tail:1<=d->R [some (.ref x),some (.int d),some (.ref pr),some (.int st)] H:=fun hd=>by
   refine hR _ _ ?_;walk_at"s";intro t ht;refine⟨pr,t,r,0,rfl,dZ ht _ _ wd,EQ (n:=0),sr,Mq (Sw.Sz.zero _),?_⟩;walk_at"rd";refine cy (fun h e he=>⟨cJ,none,bh,T.iL,?_⟩) (fun h=>hR _ _ ?_)
   ·rw[wj];exact kx (fun z=>by grind) e _ (dZ ht) he
   ·have s1:=dZ (o:=.tup [.int 0,.int 1]) ht;have hx:=s1 _ _ hx;have wd:=s1 _ _ wd;generalize aB H t (.tup [.int 0,.int 1])=H1 at s1 hx wd⊢;have np:pr≠x:=bQ wd hx (by intro w;cases w);walk_at"s";refine mD hx T.ee T.j4 (by simp) (hR _ _ ?_);walk_at"s";refine mD bh T.ee T.kU (by have:=gP (fs:=[]) (f:="depth") (v:=.int d);simp only[aU]at this;omega) (hR _ _ ?_);rw[wj];walk_at"s";have l1:=gP (fs:=[]) (f:="depth") (v:=.int d);have l2:=gP (fs:=ak "depth" (.int d) []) (f:="rate") (v:=.ref pr);have l3:=gP (fs:=ak "rate" (.ref pr) (ak "depth" (.int d) [])) (f:="since") (v:=.int st);simp only[aU]at l1;refine mD bh T.ee T.iu (by omega) (hR _ _ ?_);rw[wj];walk_at"rd";refine⟨d,1,1,rfl,by decide,Sw.Sz.one _,fun _ p hp=>?_,fun z=>absurd z (by decide)⟩;have nx:x≠p:=by intro z;rw[z,bh]at hp;cases hp
    walk_at"rd";refine mD (C:=cD) (dx:=dx) (fs:=ak "since" (.int st) (ak "rate" (.ref pr) (ak "depth" (.int d) []))) (by rw[bw nx,bh]) T.ee T.iT (by omega) ?_;refine k ⟨hd,by grind⟩ _ (fun b o n e=>?_) ⟨dx,_,pr,p,bh,FB.Eu d pr st p,?_,?_⟩
    ·have e1:=s1 _ _ e;rw[bw n,bw,bw n]
     ·exact e1
     ·intro z;rw[bw (bV nx)]at hp;rw[z,hp]at e1;cases e1
    ·rw[bw np,bw,bw np]
     ·exact wd
     ·intro z;rw[bw (bV nx)]at hp;rw[z,hp]at wd;cases wd
    ·rw[bw (bV nx),bh];have:((d:Int):Rat) / ((1:Int):Rat)=(d:Rat):=by have:((1:Int):Rat)=1:=rfl;rw[this];grind
     rw[this]
  walk_at"rd";refine cy (fun h e he=>⟨cJ,none,bh,T.iL,?_⟩) (fun h=>tail (by omega));rw[wj];exact kx (fun z=>by omega) e _ (aQ.refl _) he
include T in
theorem Xh:eg P w K mg base (eK P w) 4 cD "level" ["self","at"] [[]] (zP cD):=by
 have xV:=UK P w base T;have DN:=zxo P w base T;have BF:=ZR P w base T;refine T.qA.okN (k:=3) j7 (fun vs H Q E h=>?_) (fun f bL A outer s H vs Q E hr h=>?_)
 ·obtain⟨p,t,d,r,s,l,rfl,_⟩:=h;rfl
 ·obtain⟨p,t,d,r,st,l,rfl,B,z,zt,k⟩:=h;refine⟨_,(bJ (jR (i:=2) j7.nd rfl (gE xV (hr.mono (by decide)) rfl eo (az (je (pv 0) rfl) (az (gE DN (hr.mono (by decide)) rfl eo (az (je (pv 0) rfl) (az (jH (az (bj Pb (pv 1) (je (pv 0) rfl)) (az aW aO))) aO))) aO)))) (bR (ki (gE BF (hr.mono (by decide)) rfl eo (az (pv 2) (az (jH (az (je (pv 0) rfl) (az aW aO))) aO)))))),?_⟩;show c9 _ _ _ [some (.ref p),some (.int t),none] H;obtain⟨dx,fs,pr,pl,hp,fb,kQ,hl⟩:=id B.ex;walk_at"s";refine jd hp T.ee T.iT fb.Qs (jd hp T.ee T.kU fb.rat (jd hp T.ee T.iu fb.sin ?_));walk_at"rd";intro x1 f1;have s1:=dZ (o:=.tup [.int (t-st),.int 1]) f1;have h1:=EQ (H:=H) (p:=x1) (n:=t-st);have hp:=s1 _ _ hp;have kQ:=s1 _ _ kQ;have hl:=s1 _ _ hl;generalize aB H x1 (.tup [.int (t-st),.int 1])=H1 at s1 h1 hp kQ hl⊢;refine⟨pr,x1,r,(t-st:Int),300,rfl,kQ,h1,by decide,z.r,.int zt,fun x2 Jd=>?_⟩;have s2:=dZ (o:=.tup (fq (r*((t-st:Int):Rat)))) Jd;refine⟨pl,x2,l,r*((t-st:Int):Rat),600,rfl,s2 _ _ hl,bh,by decide,z.l.mono (by decide),(z.r.mul (.int zt)).mono (by decide),fun x3 f3=>hR _ _ ?_⟩;have s3:=dZ (o:=.tup (fq (l+r*((t-st:Int):Rat)))) f3;have sm:=(s1.trans s2).trans s3;have hp:=s3 _ _ (s2 _ _ hp);have h3:aB (aB H1 x2 (.tup (fq (r*((t-st:Int):Rat))))) x3 (.tup (fq (l+r*((t-st:Int):Rat)))) x3=some (.tup (fq (l+r*((t-st:Int):Rat)))):=bh;generalize aB (aB H1 x2 (.tup (fq (r*((t-st:Int):Rat))))) x3 (.tup (fq (l+r*((t-st:Int):Rat))))=H3 at sm hp h3⊢;walk_at"rd";refine jd hp T.ee T.j4 fb.dep ?_;walk_at"rd";intro x4 f4;have s4:=dZ (o:=.tup [.int d,.int 1]) f4;refine⟨x3,x4,_,d,rfl,s4 _ _ h3,EQ,(z.l.add (z.r.mul (.int zt))).mono (by decide),(Sw.fM.int z.d).mono (by decide),fun x5 f5=>?_⟩;exact k x5 _ ((sm.trans s4).trans (dZ f5)) bh
include T in
theorem RV:eg P w K mg base (eK P w) 5 cD "pay" ["self","at","length"] [[]] (CU dC cD):=by
 have rB:=Xh P w base T;have iE:=K7 P w base T;have zc:=zxn P w base T;have DT:=zxq P w base T;refine T.tY.jS (k:=4) mh (fun vs H Q E h=>?_) (fun f bL A outer s H vs Q E hr h=>?_)
 ·obtain⟨p,t,n,d,r,s,l,rfl,_⟩:=h;rfl
 ·obtain⟨p,t,n,d,r,st,l,rfl,B,z,zt,zn,k,kx⟩:=h;refine⟨_,(bJ (jR (i:=3) mh.nd rfl (gE zc (hr.mono (by decide)) rfl aR (az (j9 (dX:=[]) rB (by simp) T.ee (hr.mono (by decide)) aR (pv 0) (az (pv 1) aO)) (az (jH (az (pv 2) (az aW aO))) aO)))) (bJ (bC (Bd (gE iE (hr.mono (by decide)) rfl aR (az (pv 3) (az (jH (az aW (az aW aO))) aO)))) (bR (mw K rfl rfl mC (Mp DT T.jQ T.Co (hr.mono (by decide)) eo rfl T.sy (az (gE zc (hr.mono (by decide)) rfl aR (az (jH (az aW (az aW aO))) (az (pv 3) aO))) aO)))) gX) (bJ (mz (pv 0) (pv 1) rfl) (bR (mz (pv 0) (pv 3) rfl))))),?_⟩;show c9 _ _ _ [some (.ref p),some (.int t),some (.int n),none] H;obtain⟨dx,fs,pr,pl,hp,fb,kQ,hl⟩:=id B.ex;have zl:=zyv z zt;walk_at"s";refine kh hp (fb.zE _) ?_;walk_at"rd";refine⟨p,t,d,r,st,l,rfl,B,z,zt,fun q H1 s1 hq=>?_⟩;generalize Sw.lvl d r st l t=v at zl k kx hq;walk_at"rd";intro x f1;have s2:=dZ (o:=.tup [.int n,.int 1]) f1;refine⟨q,x,v,n,1000,rfl,s2 _ _ hq,EQ,by decide,zl,(Sw.fM.int zn).mono (by decide),fun y Jd=>hR _ _ ?_⟩;have s3:=dZ (o:=.tup (fq (v-(n:Rat)))) Jd;have sm:=(s1.trans s2).trans s3;have hy:aB (aB H1 x (.tup [.int n,.int 1])) y (.tup (fq (v-(n:Rat)))) y=some (.tup (fq (v-(n:Rat)))):=bh;generalize aB (aB H1 x (.tup [.int n,.int 1])) y (.tup (fq (v-(n:Rat))))=H2 at sm hy⊢;have zr:Sw.fM 2000 (v-(n:Rat)):=(zl.sub (.int zn)).mono (by decide);walk_at"s";intro x2 f3;have s4:=dZ (o:=.tup [.int 0,.int 1]) f3;refine⟨y,x2,v-(n:Rat),0,rfl,s4 _ _ hy,EQ (n:=0),zr.mono (by decide),Mq (Sw.Sz.zero _),?_⟩;have sm:=sm.trans s4;have hy:=s4 _ _ hy;generalize aB H2 x2 (.tup [.int 0,.int 1])=H3 at sm hy⊢;walk_at"rd";refine cy (fun h=>?_) fun h=>hR _ _ ?_
  ·intro x3 f4;have s5:=dZ (o:=.tup [.int 0,.int 1]) f4;refine⟨x3,y,0,v-(n:Rat),2000,rfl,EQ (n:=0),s5 _ _ hy,by decide,⟨Sw.Sz.zero _,Sw.Sz.one _⟩,zr,fun pm f5=>?_⟩;have s6:=dZ (o:=.tup (fq (0-(v-(n:Rat))))) f5;have sm:=(sm.trans s5).trans s6;have hm:aB (aB H3 x3 (.tup [.int 0,.int 1])) pm (.tup (fq (0-(v-(n:Rat))))) pm=some (.tup (fq ((n:Rat)-v))):=by rw[bh,show(0-(v-(n:Rat)))=(n:Rat)-v by grind]
   generalize aB (aB H3 x3 (.tup [.int 0,.int 1])) pm (.tup (fq (0-(v-(n:Rat)))))=H4 at sm hm⊢;refine NH fun e x H5 X=>⟨_,_,X.he,T.jQ,kx (by grind) e x pm _ (fun b o w=>?_) bh ?_ ?_⟩
   ·have w1:=sm _ _ w;rw[bw (gq w1 X.fe)];exact X.sm _ _ w1
   ·rw[bw X.ne];exact X.hd
   ·rw[bw (gq hm X.fe)];exact X.sm _ _ hm
  ·have hp:=sm _ _ hp;walk_at"s";refine mD hp T.ee T.iu (by have:=fb.len;omega) (hR _ _ ?_);walk_at"rd";refine mD bh T.ee T.iT (by rw[Iw fb.sin];have:=fb.len;omega) ?_;rw[wj];have ny:y≠p:=bQ hy hp (by intro w;cases w);have np:pr≠p:=bQ (sm _ _ kQ) hp (by intro w;cases w);exact k (by grind) _ (fun b o nb e=>by rw[bw nb];exact sm _ _ e) ⟨dx,_,pr,y,bh,fb.Wb,by rw[bw np];exact sm _ _ kQ,by rw[bw ny];exact hy⟩
abbrev Rs(c:Addr)(H:Hp)(E:XK):Prop:=∀e,H e=none->E (.ref e) none (aB H e (b7 e c none false))
theorem eW{c:Addr}{H:Hp}{E:XK}(kx:Rs c H E)(xc:XC K c):∀e,H e=none->∃x x1,aB H e (b7 e c none true) e=some (b7 e x x1 true)/\XC K x/\E (.ref e) x1 (aB (aB H e (b7 e c none true)) e (b7 e x x1 false)):=fun e he=>⟨c,none,bh,xc,by rw[wj];exact kx e he⟩
def Ko(cS:Addr):Sp:=fun vs H Q E=>∃s,vs=[.int s]/\(1<=s/\s<=1000000->Q .non H)/\(¬(1<=s/\s<=1000000)->Rs cS H E)
include T in
theorem Ot:ko P w K mg base (eK P w) 1 "check_share" ["share"] (Ko cX):=by
 refine T.qJ.jS (k:=0) W4 (fun vs H Q E h=>?_) (fun f bL A outer s H vs Q E hr h=>?_)
 ·obtain⟨s,rfl,_⟩:=h;rfl
 ·obtain⟨s,rfl,k,kx⟩:=h;refine⟨_,(bR (bC (Be (Ir fG fG aW (pv 0) (Aa rfl T.nR))) (bR (mw K rfl rfl mC (oK T.yi T.yC rfl T.su (az gg aO)))) gX)),?_⟩;show uh _ _ _ _ [some (.int s)] H;walk_at"rd";refine cy (fun c1=>cy (fun c2=>k ⟨c1,c2⟩) fun c2=>?_) fun c1=>?_
  ·exact eW (kx fun z=>c2 z.2) T.mX
  ·exact eW (kx fun z=>c1 z.1) T.mX
def Oc(C:Addr):Sp:=fun vs H Q _=>∃x dx,vs=[.ref x]/\H x=some (.ins C dx [])/\∀fW H',qR x H H'->H fW=none->Mb C H' x fW []->Q .non H'
include T in
theorem S6:Dj P w K mg base (eK P w) 1 cH ["self"] [[]] (Oc cH):=by
 refine T.yx.okN (k:=0) WQ (fun vs H Q E h=>?_) (fun f bL A outer s H vs Q E hr h=>?_)
 ·obtain⟨x,dx,rfl,_⟩:=h;rfl
 ·obtain⟨x,dx,rfl,hx,k⟩:=h;refine⟨_,(bR (mz (pv 0) Mf rfl)),?_⟩;show(_:TS) _ [some (.ref x)] H;walk_at"rd";intro fW wM;have nx:fW≠x:=fun z=>by rw[z,hx]at wM;cases wM
  have sn:=dZ (o:=.dK []) wM;refine mD (sn _ _ hx) T.dW T.dS (by simp) ?_;refine k fW _ (fun b o n e=>?_) wM ⟨⟨dx,ak "shares" (.ref fW) [],bh,?_,fun m hm=>?_,?_⟩,?_⟩
  ·rw[bw n];exact sn _ _ e
  ·rw[mY,if_pos rfl]
  ·rw[mY,if_neg hm];rfl
  ·have:=gP (fs:=[]) (f:="shares") (v:=.ref fW);simp only[aU]at this;omega
  ·rw[bw nx];exact bh
inductive Kq(cC C:Addr)(vs:List V)(H:Hp)(Q:VK)(E:XK):Prop|mk (p fW nm x:_) (h1:vs=[.ref p,.str x]) (h2:Mb C H p fW nm) (h3:(dw nm x≠none->Q .non H)) (h4:(dw nm x=none->Rs cC H E)):Kq cC C vs H Q E
include T in
theorem QS:eg P w K mg base (eK P w) 1 cH "check_name" ["self","name"] [[]] (Kq cI cH):=by
 refine T.kA.jS (k:=0) Wj (fun vs H Q E h=>?_) (fun f bL A outer s H vs Q E hr h=>?_)
 ·obtain⟨p,fW,nm,x,rfl,_⟩:=h;rfl
 ·obtain⟨p,fW,nm,x,rfl,M,k,kx⟩:=h;refine⟨_,(bR (bC (K9 (OF (gO hr) (pv 1) (je (pv 0) rfl))) (bR (mw K rfl rfl mC (oK T.mQ T.mR rfl T.jZ (az gg aO)))) gX)),?_⟩;show uh _ _ _ _ [some (.ref p),some (.str x)] H;obtain⟨dx,fs,hp,hf,AA,gh⟩:=M.ex;walk_at"rd";refine jd hp T.dW T.dS hf ?_;walk_at"rd";refine⟨_,kj.k (k:=aH x) M.hs,?_⟩;rw[K5];cases e:dw nm x with
  |none=>exact eW (kx e) T.iW
  |some v=>exact k (by rw[e];simp)
inductive CT(cT cS C:Addr)(vs:List V)(H:Hp)(Q:VK)(E:XK):Prop|mk (p fW nm x s:_) (h1:vs=[.ref p,.str x,.int s]) (h2:Mb C H p fW nm) (h3:nm.length<900) (h4:(dw nm x≠none->Rs cT H E)) (h5:(dw nm x=none->¬(1<=s/\s<=1000000)->Rs cS H E)) (h6:(dw nm x=none->1<=s/\s<=1000000->Q .non (aB H fW (.dK (kvsOf (nm++[(x,s)])))))):CT cT cS C vs H Q E
include T in
theorem RJ:eg P w K mg base (eK P w) 2 cH "put" ["self","name","share"] [[]] (CT dE cX cH):=by
 have fN:=Ot P w base T;refine T.rX.jS (k:=1) W8 (fun vs H Q E h=>?_) (fun f bL A outer s H vs Q E hr h=>?_)
 ·obtain⟨p,fW,nm,x,s,rfl,_⟩:=h;rfl
 ·obtain⟨p,fW,nm,x,s,rfl,M,hn,kt,ks,k⟩:=h;refine⟨_,(bJ (bC (K9 (UA (gO hr) (pv 1) (je (pv 0) rfl))) (bR (mw K rfl rfl mC (oK T.wH T.wQ rfl T.sD (az gg aO)))) gX) (bJ (gf (gE fN (hr.mono (by decide)) rfl aR (az (pv 2) aO))) (bR (IC (gO hr) (je (pv 0) rfl) (pv 1) (pv 2) rfl)))),?_⟩;show c9 _ _ _ [some (.ref p),some (.str x),some (.int s)] H;obtain⟨dx,fs,hp,hf,AA,gh⟩:=M.ex;walk_at"s";refine jd hp T.dW T.dS hf ?_;walk_at"rd";refine⟨_,kj.k (k:=aH x) M.hs,?_⟩;rw[K5];cases hx:dw nm x with
  |some v=>exact eW (kt (by rw[hx];simp)) T.tF
  |none=>
   refine hR _ _ ?_;walk_at"s";refine⟨s,rfl,fun c=>hR _ _ ?_,fun c=>ks hx c⟩;walk_at"rd";refine jd hp T.dW T.dS hf ?_;walk_at"rd";refine⟨_,rh.k (k:=aH x) M.hs (iG (by rw[OG];omega)),?_⟩;rw[Tp hx];exact k hx c
inductive zS(cC C:Addr)(vs:List V)(H:Hp)(Q:VK)(E:XK):Prop|mk (p fW nm x:_) (h1:vs=[.ref p,.str x]) (h2:Mb C H p fW nm) (h3:(dw nm x=none->Rs cC H E)) (h4:(dw nm x≠none->Q .non (aB H fW (.dK (kvsOf (rR nm x)))))):zS cC C vs H Q E
include T in
theorem Xi:eg P w K mg base (eK P w) 2 cH "take" ["self","name"] [[]] (zS cI cH):=by
 have fF:=QS P w base T;refine T.qB.jS (k:=1) WR (fun vs H Q E h=>?_) (fun f bL A outer s H vs Q E hr h=>?_)
 ·obtain⟨p,fW,nm,x,rfl,_⟩:=h;rfl
 ·obtain⟨p,fW,nm,x,rfl,M,kx,k⟩:=h;refine⟨_,(bJ (gf (j9 (dX:=[]) fF (by simp) T.dW (hr.mono (by decide)) aR (pv 0) (az (pv 1) aO))) (bR (gf (OO (je (pv 0) rfl) (pv 1) ⟨rfl,rfl,rfl,rfl⟩)))),?_⟩;show c9 _ _ _ [some (.ref p),some (.str x)] H;obtain⟨dx,fs,hp,hf,AA,gh⟩:=M.ex;walk_at"s";refine kh hp (AA _ (by decide+kernel)) ⟨p,fW,nm,x,rfl,M,fun hx=>hR _ _ ?_,kx⟩;walk_at"rdc";refine jd hp T.dW T.dS hf ?_;walk_at"rdc";cases e:dw nm x with
  |none=>exact absurd e hx
  |some v=>
   exact⟨.inl ⟨_,.inl M.hs⟩,_,M.hs,aH x,rfl,⟨.int v,by rw[K5,e];rfl⟩,by rw[ZC];exact k hx⟩
inductive zR(cC cS C:Addr)(vs:List V)(H:Hp)(Q:VK)(E:XK):Prop|mk (p fW nm x s:_) (h1:vs=[.ref p,.str x,.int s]) (h2:Mb C H p fW nm) (h3:nm.length<900) (h4:(dw nm x=none->Rs cC H E)) (h5:(dw nm x≠none->¬(1<=s/\s<=1000000)->Rs cS H E)) (h6:(dw nm x≠none->1<=s/\s<=1000000->Q .non (aB H fW (.dK (kvsOf (putN nm x s)))))):zR cC cS C vs H Q E
include T in
theorem WF:eg P w K mg base (eK P w) 2 cH "reshare" ["self","name","share"] [[]] (zR cI cX cH):=by
 have fN:=Ot P w base T;have fF:=QS P w base T;refine T.mS.jS (k:=1) Wt (fun vs H Q E h=>?_) (fun f bL A outer s H vs Q E hr h=>?_)
 ·obtain⟨p,fW,nm,x,s,rfl,_⟩:=h;rfl
 ·obtain⟨p,fW,nm,x,s,rfl,M,hn,kc,ks,k⟩:=h;refine⟨_,(bJ (gf (j9 (dX:=[]) fF (by simp) T.dW (hr.mono (by decide)) aR (pv 0) (az (pv 1) aO))) (bJ (gf (gE fN (hr.mono (by decide)) rfl aR (az (pv 2) aO))) (bR (IC (gO hr) (je (pv 0) rfl) (pv 1) (pv 2) rfl)))),?_⟩;show c9 _ _ _ [some (.ref p),some (.str x),some (.int s)] H;obtain⟨dx,fs,hp,hf,AA,gh⟩:=M.ex;walk_at"s";refine kh hp (AA _ (by decide+kernel)) ⟨p,fW,nm,x,rfl,M,fun hx=>hR _ _ ?_,kc⟩;walk_at"s";refine⟨s,rfl,fun c=>hR _ _ ?_,fun c=>ks hx c⟩;walk_at"rd";refine jd hp T.dW T.dS hf ?_;walk_at"rd";refine⟨_,rh.k (k:=aH x) M.hs (iG (by rw[OG];omega)),?_⟩;rw[ZB hx];exact k hx c
inductive KG(C Cm:Addr)(vs:List V)(H:Hp)(Q:VK)(E:XK):Prop|mk (x dx most:_) (h1:vs=[.ref x,.int most]) (h2:H x=some (.ins C dx [])) (h3:∀pm fW H',qR x H H'->H pm=none->H fW=none->pm≠x->H' x=some (.ins C dx (ak "chosen" .non (ak "members" (.ref pm) (ak "most" (.int most) []))))->Mb Cm H' pm fW []->Q .non H'):KG C Cm vs H Q E
include T in
theorem Wr:Ln P w K mg base (eK P w) 3 cF "__init__" ["self","most"] (KG dD cH):=by
 have oQ:=S6 P w base T;refine T.k7.okN (k:=2) Wl (fun vs H Q E h=>?_) (fun f bL A outer s H vs Q E hr h=>?_)
 ·obtain⟨x,dx,most,rfl,_⟩:=h;rfl
 ·obtain⟨x,dx,most,rfl,hx,k⟩:=h;refine⟨_,(bJ (mz (pv 0) (pv 1) rfl) (bJ (mz (pv 0) (SM (dX:=[]) oQ (by simp) (hr.mono (by decide)) eo rfl T.sj) rfl) (bR (mz (pv 0) xE rfl)))),?_⟩;show c9 _ _ _ [some (.ref x),some (.int most)] H;have l1:=gP (fs:=[]) (f:="most") (v:=.int most);simp only[aU]at l1;walk_at"s";refine mD hx T.bI T.sH (by simp) (hR _ _ ?_);walk_at"s";intro pm dm rV Jr _;have nx:pm≠x:=fun z=>by rw[z,bh]at rV;cases rV
  have G1:H pm=none:=by rw[bw nx]at rV;exact rV
  refine⟨pm,dm,rfl,bh,fun fW H1 bt wM M=>⟨rfl,?_⟩⟩;have s1:=bt.same (xU rV Jr) rV;have tW:=s1 _ _ bh;have l2:=gP (fs:=ak "most" (.int most) []) (f:="members") (v:=.ref pm);have vm:aB H x (.ins dD dx (ak "most" (.int most) [])) fW=none:=(xU rV Jr).free wM;have BA:fW≠x:=fun z=>by rw[z,bh]at vm;cases vm
  have sL:H fW=none:=by rw[bw BA]at vm;exact vm
  refine mD tW T.bI T.fC (by omega) (hR _ _ ?_);walk_at"rd";refine mD bh T.bI T.o9 (by omega) ?_;rw[wj];refine k pm fW _ (fun b o n e=>?_) G1 sL nx bh ?_
  ·rw[bw n];exact s1 _ _ (by rw[bw n];exact e)
  ·obtain⟨d2,f2,g1,g2⟩:=M.ex;exact⟨⟨d2,f2,by rw[bw nx];exact g1,g2⟩,by rw[bw BA];exact M.hs⟩
inductive Kx(C Cm:Addr)(vs:List V)(H:Hp)(Q:VK)(E:XK):Prop|mk (x dx most:_) (h1:vs=[.ref x,.int most]) (h2:H x=some (.ins C dx [])) (h3:∀(a:k9) H',a.p=x->qR x H H'->H a.pm=none->H a.ps=none->H a.pt=none->H a.pg=none->Sx C Cm H' a most [] (fun _=>none) (fun _=>none) 0 .non 0->Q .non H'):Kx C Cm vs H Q E
include T in
theorem TJ:Dj P w K mg base (eK P w) 4 dD ["self","most"] [[]] (Kx dD cH):=by
 have lS:=Wr P w base T;have dR:=DK P w base T;refine T.AJ.okN (k:=3) Xa (fun vs H Q E h=>?_) (fun f bL A outer s H vs Q E hr h=>?_)
 ·obtain⟨x,dx,most,rfl,_⟩:=h;rfl
 ·obtain⟨x,dx,most,rfl,hx,k⟩:=h;refine⟨_,(bJ (gf (T5 lS (hr.mono (by decide)) eo rfl T.r6 (az (pv 0) (az (pv 1) aO)))) (bJ (mz (pv 0) (gE dR (hr.mono (by decide)) rfl eo (az aW (az aW aO))) rfl) (bJ (mz (pv 0) Mf rfl) (bR (mz (pv 0) Mf rfl))))),?_⟩;show c9 _ _ _ [some (.ref x),some (.int most)] H;refine bU fun R hR=>?_;walk_at"rdc";refine⟨x,dx,most,rfl,hx,fun pm fW H1 bt G1 sL nx tW M=>hR _ _ ?_⟩;have l1:=gP (fs:=[]) (f:="most") (v:=.int most);have l2:=gP (fs:=ak "most" (.int most) []) (f:="members") (v:=.ref pm);have l3:=gP (fs:=ak "members" (.ref pm) (ak "most" (.int most) [])) (f:="chosen") (v:=.non);simp only[aU]at l1;walk_at"s";refine⟨0,1,1,rfl,by decide,Sw.Sz.one _,fun _ pr wd=>?_,fun z=>absurd z (by decide)⟩;have e0:((0:Int):Rat) / ((1:Int):Rat)=0:=by have z0:((0:Int):Rat)=0:=rfl;rw[z0];grind
  rw[e0];have s1:=dZ (o:=.tup (fq 0)) wd;have vp:aB H1 pr (.tup (fq 0)) pr=some (.tup (fq 0)):=bh;have tW:=s1 _ _ tW;have M:=M.same s1;have bt:=bt.trans s1.but;generalize aB H1 pr (.tup (fq 0))=H2 at s1 vp tW M bt⊢;clear s1 wd;walk_at"rd";refine mD tW T.bI T.nT (by omega) (hR _ _ ?_);generalize PY:ak "reached" (.ref pr) (ak "chosen" .non (ak "members" (.ref pm) (ak "most" (.int most) [])))=yq;have l4:yq.length<=4:=by have:=gP (fs:=ak "chosen" .non (ak "members" (.ref pm) (ak "most" (.int most) []))) (f:="reached") (v:=.ref pr);rw[PY]at this;omega
  have LC:aB H2 x (.ins dD dx yq) x=some (.ins dD dx yq):=bh;have bt:qR x H (aB H2 x (.ins dD dx yq)):=bt.trans IB;have BA:fW≠x:=fun z=>by rw[z,hx]at sL;cases sL
  have NP:pr≠x:=bQ vp tW (by intro z;cases z);have vp:aB H2 x (.ins dD dx yq) pr=some (.tup (fq 0)):=by rw[bw NP];exact vp
  have M:Mb cH (aB H2 x (.ins dD dx yq)) pm fW []:=by obtain⟨d2,f2,g1,g2⟩:=M.ex;exact⟨⟨d2,f2,by rw[bw nx];exact g1,g2⟩,by rw[bw BA];exact M.hs⟩
  generalize aB H2 x (.ins dD dx yq)=H3 at LC bt vp M⊢;walk_at"s";intro pt uF;have G3:pt≠x:=fun z=>by rw[z,LC]at uF;cases uF
  have s3:=dZ (o:=.dK []) uF;have tV:aB H3 pt (.dK []) pt=some (.dK []):=bh;have V6:=gq M.hs uF;refine mD (s3 _ _ LC) T.bI T.iV (by omega) (hR _ _ ?_);have free:∀{H':Hp}{b:Addr},qR x H H'->b≠x->H' b=none->H b=none:=fun{H' b} bt n e=>by
   cases q:H b with
   |none=>rfl
   |some o=>
    have:=bt _ _ n q;rw[e]at this;cases this
  have NO:=free bt G3 uF;have l5:=gP (fs:=yq) (f:="tags") (v:=.ref pt);have ie:∀{H':Hp}{fs:List (Str×V)}{b:Addr}{o:HO},b≠x->H' b=some o->aB H' x (.ins dD dx fs) b=some o:=fun n e=>by rw[bw n];exact e
  have bt:qR x H (aB (aB H3 pt (.dK [])) x (.ins dD dx (ak "tags" (.ref pt) yq))):=(bt.trans s3.but).trans IB;have vp:=ie (fs:=ak "tags" (.ref pt) yq) NP (s3 _ _ vp);have tV:=ie (fs:=ak "tags" (.ref pt) yq) G3 tV;have M:Mb cH (aB (aB H3 pt (.dK [])) x (.ins dD dx (ak "tags" (.ref pt) yq))) pm fW []:=by obtain⟨d2,f2,g1,g2⟩:=(M.same s3).ex;exact⟨⟨d2,f2,ie nx g1,g2⟩,ie BA (s3 _ _ M.hs)⟩
  have GN:aB (aB H3 pt (.dK [])) x (.ins dD dx (ak "tags" (.ref pt) yq)) x=some (.ins dD dx (ak "tags" (.ref pt) yq)):=bh;generalize aB (aB H3 pt (.dK [])) x (.ins dD dx (ak "tags" (.ref pt) yq))=H4 at bt vp tV M GN⊢;clear s3 uF LC;walk_at"rd";intro pg oY;have JN:pg≠x:=fun z=>by rw[z,GN]at oY;cases oY
  have s5:=dZ (o:=.dK []) oY;have V1:=gq tV oY;have NI:=gq M.hs oY;refine mD (s5 _ _ GN) T.bI T.eN (by omega) ?_;have NN:=free bt JN oY;refine k ⟨x,pm,fW,pt,pg⟩ _ rfl ((bt.trans s5.but).trans IB) G1 sL NO NN ⟨⟨dx,_,pr,bh,?_,ie NP (s5 _ _ vp)⟩,?_,⟨[],ie G3 (s5 _ _ tV),fun y=>.inl ⟨rfl,rfl⟩,ao _⟩,⟨[],ie JN bh,fun y=>.inl ⟨rfl,rfl⟩,ao _⟩,ao _,V1,V6.symm,NI.symm,nx.symm⟩
  ·rw[<-PY];exact FS.Eu _ _ _ _ _ _
  ·obtain⟨d2,f2,g1,g2⟩:=(M.same s5).ex;exact⟨⟨d2,f2,ie nx g1,g2⟩,ie BA (s5 _ _ M.hs)⟩
def Kw(C:Addr):Sp:=fun vs H Q _=>∃p x,vs=[.ref p,.str x]/\Q .non H
include T in
theorem WY:eg P w K mg base (eK P w) 1 dD "fit_in" ["self","name"] [[]] (Kw dD):=by
 refine T.o4.okN (k:=0) WG (fun vs H Q E h=>?_) (fun f bL A outer s H vs Q E hr h=>?_)
 ·obtain⟨p,x,rfl,_⟩:=h;rfl
 ·obtain⟨p,x,rfl,k⟩:=h;refine⟨_,(bR Z2),?_⟩;show(_:TS) _ [some (.ref p),some (.str x)] H;walk_at"rd";exact k
inductive zM(C Cm:Addr)(vs:List V)(H:Hp)(Q:VK)(E:XK):Prop|mk (a most nm tg gs ck ch N x:_) (h1:vs=[.ref a.p,.str x]) (h2:Sx C Cm H a most nm tg gs ck ch N) (h3:N<900) (h4:∀H',oS a H H'->Sx C Cm H' a most nm (vH tg x 0) (vH gs x 0) ck ch (N+2)->Q .non H'):zM C Cm vs H Q E
include T in
theorem Xj:eg P w K mg base (eK P w) 3 dD "enter" ["self","name"] [[]] (zM dD cH):=by
 have dR:=DK P w base T;refine T.qD.okN (k:=2) WU (fun vs H Q E h=>?_) (fun f bL A outer s H vs Q E hr h=>?_)
 ·obtain⟨a,most,nm,tg,gs,ck,ch,N,x,rfl,_⟩:=h;rfl
 ·obtain⟨a,most,nm,tg,gs,ck,ch,N,x,rfl,S,hN,k⟩:=h;refine⟨_,(bJ (IC (gO hr) (je (pv 0) rfl) (pv 1) (gE dR (hr.mono (by decide)) rfl eo (az aW (az aW aO))) rfl) (bR (IC (gO hr) (je (pv 0) rfl) (pv 1) (gE dR (hr.mono (by decide)) rfl eo (az aW (az aW aO))) rfl))),?_⟩;show c9 _ _ _ [some (.ref a.p),some (.str x)] H;walk_at"s";refine⟨0,1,1,rfl,by decide,Sw.Sz.one _,fun _ q hq=>?_,fun z=>absurd z (by decide)⟩;rw[Fw];have sn:=dZ (o:=.tup (fq 0)) hq;have Ig:aB H q (.tup (fq 0)) q=some (.tup (fq 0)):=bh;have S:=S.same sn;generalize aB H q (.tup (fq 0))=H1 at sn Ig S⊢;obtain⟨dx,fs,pr,hp,ft,kQ⟩:=S.ex;obtain⟨aI,uF,hv,Ib⟩:=S.dt.ex;walk_at"rd";refine jd hp T.bI T.iV ft.ta ?_;walk_at"rd";refine⟨_,rh.k (k:=aH x) uF (iG (by omega)),hR _ _ ?_⟩;have JI:=KU aI (aH x:Key) (.ref q);have S:=S.Fz (gK N) (jm.put (x:=x) (r:=0) uF hv (by omega) Ig);have ow:oS a H _:=sn.own.trans (CD (a:=a) (H:=H1) (o:=.dK (gB aI (aH x) (.ref q))));generalize aB H1 a.pt (.dK (gB aI (aH x) (.ref q)))=H2 at S ow⊢;clear sn Ig hp ft kQ uF hv Ib JI hq;walk_at"rd";refine⟨0,1,1,rfl,by decide,Sw.Sz.one _,fun _ q hq=>?_,fun z=>absurd z (by decide)⟩;rw[Fw];have sn:=dZ (o:=.tup (fq 0)) hq;have Ig:aB H2 q (.tup (fq 0)) q=some (.tup (fq 0)):=bh;have S:=S.same sn;generalize aB H2 q (.tup (fq 0))=H3 at sn Ig S⊢;obtain⟨dx,fs,pr,hp,ft,kQ⟩:=S.ex;obtain⟨aI,oY,hv,Ib⟩:=S.dg.ex;walk_at"rd";refine jd hp T.bI T.eN ft.gr ?_;walk_at"rd";refine⟨_,rh.k (k:=aH x) oY (iG (by omega)),?_⟩;have JI:=KU aI (aH x:Key) (.ref q);exact k _ ((ow.trans sn.own).trans CC) (S.Fy (gK (N+1)) (jm.put (x:=x) (r:=0) oY hv (by omega) Ig))
inductive zO(C Cm:Addr)(vs:List V)(H:Hp)(Q:VK)(E:XK):Prop|mk (a most nm tg gs ck ch N x t g:_) (h1:vs=[.ref a.p,.str x]) (h2:Sx C Cm H a most nm tg gs ck ch N) (h3:tg x=some t) (h4:gs x=some g) (h5:∀H',oS a H H'->Sx C Cm H' a most nm (At tg x) (At gs x) ck ch N->Q .non H'):zO C Cm vs H Q E
include T in
theorem Xk:eg P w K mg base (eK P w) 1 dD "leave" ["self","name"] [[]] (zO dD cH):=by
 refine T.qE.okN (k:=0) WV (fun vs H Q E h=>?_) (fun f bL A outer s H vs Q E hr h=>?_)
 ·obtain⟨a,most,nm,tg,gs,ck,ch,N,x,t,g,rfl,_⟩:=h;rfl
 ·obtain⟨a,most,nm,tg,gs,ck,ch,N,x,t,g,rfl,S,ht,hg,k⟩:=h;refine⟨_,(bJ (gf (OO (je (pv 0) rfl) (pv 1) ⟨rfl,rfl,rfl,rfl⟩)) (bR (gf (OO (je (pv 0) rfl) (pv 1) ⟨rfl,rfl,rfl,rfl⟩)))),?_⟩;show c9 _ _ _ [some (.ref a.p),some (.str x)] H;obtain⟨dx,fs,pr,hp,ft,kQ⟩:=S.ex;obtain⟨aI,uF,hv,Ib⟩:=S.dt.ex;refine bU fun R hR=>?_;walk_at"rdc";refine jd hp T.bI T.iV ft.ta ?_;walk_at"rdc";rcases hv x with⟨z,_⟩ |⟨r,q,e1,e2,e3⟩
  ·rw[ht]at z;cases z
  ·refine⟨.inl ⟨_,.inl uF⟩,_,uF,aH x,rfl,⟨_,e2⟩,hR _ _ ?_⟩;have S:=S.Fz (ao N) (jm.del (x:=x) uF hv (bf (ON _ _) Ib));have ow:oS a H (aB H a.pt (.dK (iP aI (aH x)))):=CD;generalize aB H a.pt (.dK (iP aI (aH x)))=H1 at S ow⊢;obtain⟨dx,fs,pr,hp,ft,kQ⟩:=S.ex;obtain⟨aI,oY,hv,Ib⟩:=S.dg.ex;walk_at"rdc";refine jd hp T.bI T.eN ft.gr ?_;walk_at"rdc";rcases hv x with⟨z,_⟩ |⟨r,q,e1,e2,e3⟩
   ·rw[hg]at z;cases z
   ·exact⟨.inl ⟨_,.inl oY⟩,_,oY,aH x,rfl,⟨_,e2⟩,k _ (ow.trans CC) (S.Fy (ao N) (jm.del (x:=x) oY hv (bf (ON _ _) Ib)))⟩
inductive FF(cT cS C Cm:Addr)(vs:List V)(H:Hp)(Q:VK)(E:XK):Prop|mk (a most nm tg gs ck ch N x s:_) (h1:vs=[.ref a.p,.str x,.int s]) (h2:Sx C Cm H a most nm tg gs ck ch N) (h3:N<890) (h4:(dw nm x≠none->Rs cT H E)) (h5:(dw nm x=none->¬(1<=s/\s<=1000000)->Rs cS H E)) (h6:(dw nm x=none->1<=s/\s<=1000000->∀H',oS a H H'->Sx C Cm H' a most (nm++[(x,s)]) (vH tg x 0) (vH gs x 0) ck ch (N+3)->Q .non H')):FF cT cS C Cm vs H Q E
include T in
theorem RW:eg P w K mg base (eK P w) 4 dD "put" ["self","name","share"] [[]] (FF dE cX dD cH):=by
 have jl:=RJ P w base T;have rF:=Xj P w base T;refine T.t7.jS (k:=3) Xs (fun vs H Q E h=>?_) (fun f bL A outer s H vs Q E hr h=>?_)
 ·obtain⟨a,most,nm,tg,gs,ck,ch,N,x,s,rfl,_⟩:=h;rfl
 ·obtain⟨a,most,nm,tg,gs,ck,ch,N,x,s,rfl,S,hN,kt,ks,k⟩:=h;refine⟨_,(bJ (gf (j9 (dX:=[]) jl (by simp) T.dW (hr.mono (by decide)) aR (je (pv 0) rfl) (az (pv 1) (az (pv 2) aO)))) (bR (gf (j9 (dX:=[]) rF (by simp) T.bI (hr.mono (by decide)) aR (pv 0) (az (pv 1) aO))))),?_⟩;show c9 _ _ _ [some (.ref a.p),some (.str x),some (.int s)] H;obtain⟨dx,fs,pr,hp,ft,kQ⟩:=S.ex;obtain⟨dm,fm,rV,M8,AA,gh⟩:=S.mb.ex;have nl:=S.nl;walk_at"s";refine jd hp T.bI T.fC ft.me ?_;refine kh rV (AA _ (by decide+kernel)) ⟨a.pm,a.ps,nm,x,s,rfl,S.mb,by omega,kt,ks,fun hx hs=>hR _ _ ?_⟩;have S:=S.xn (yN:=nm++[(x,s)]) (gK N) (by simp;omega);have ow:oS a H (aB H a.ps (.dK (kvsOf (nm++[(x,s)])))):=zG;generalize aB H a.ps (.dK (kvsOf (nm++[(x,s)])))=H1 at S ow⊢;obtain⟨dx,fs,pr,hp,ft,kQ⟩:=S.ex;walk_at"rd";exact kh hp (ft.zE _) ⟨a,most,_,tg,gs,ck,ch,N+1,x,rfl,S,by omega,fun H' o' S'=>k hx hs H' (ow.trans o') S'⟩
inductive CY(cC C Cm:Addr)(vs:List V)(H:Hp)(Q:VK)(E:XK):Prop|mk (a most nm tg gs ck ch N x:_) (h1:vs=[.ref a.p,.str x]) (h2:Sx C Cm H a most nm tg gs ck ch N) (h3:(dw nm x=none->Rs cC H E)) (h4:(dw nm x≠none->∃t g,tg x=some t/\gs x=some g/\∀H',oS a H H'->Sx C Cm H' a most (rR nm x) (At tg x) (At gs x) ck ch N->Q .non H')):CY cC C Cm vs H Q E
include T in
theorem Xy:eg P w K mg base (eK P w) 3 dD "take" ["self","name"] [[]] (CY cI dD cH):=by
 have rC:=Xi P w base T;have rG:=Xk P w base T;refine T.rY.jS (k:=2) Xb (fun vs H Q E h=>?_) (fun f bL A outer s H vs Q E hr h=>?_)
 ·obtain⟨a,most,nm,tg,gs,ck,ch,N,x,rfl,_⟩:=h;rfl
 ·obtain⟨a,most,nm,tg,gs,ck,ch,N,x,rfl,S,kx,k⟩:=h;refine⟨_,(bJ (gf (j9 (dX:=[]) rC (by simp) T.dW (hr.mono (by decide)) aR (je (pv 0) rfl) (az (pv 1) aO))) (bR (gf (j9 (dX:=[]) rG (by simp) T.bI (hr.mono (by decide)) aR (pv 0) (az (pv 1) aO))))),?_⟩;show c9 _ _ _ [some (.ref a.p),some (.str x)] H;obtain⟨dx,fs,pr,hp,ft,kQ⟩:=S.ex;obtain⟨dm,fm,rV,M8,AA,gh⟩:=S.mb.ex;have nl:=S.nl;walk_at"s";refine jd hp T.bI T.fC ft.me ?_;refine kh rV (AA _ (by decide+kernel)) ⟨a.pm,a.ps,nm,x,rfl,S.mb,kx,fun hx=>hR _ _ ?_⟩;obtain⟨t,g,ht,hg,k⟩:=k hx;have S:=S.xn (yN:=rR nm x) (ao N) (bf (ir _ _) nl);have ow:oS a H (aB H a.ps (.dK (kvsOf (rR nm x)))):=zG;generalize aB H a.ps (.dK (kvsOf (rR nm x)))=H1 at S ow⊢;obtain⟨dx,fs,pr,hp,ft,kQ⟩:=S.ex;walk_at"rd";exact kh hp (ft.zE _) ⟨a,most,_,tg,gs,ck,ch,N,x,t,g,rfl,S,ht,hg,fun H' o' S'=>k H' (ow.trans o') S'⟩
inductive yS(cC cS C Cm:Addr)(vs:List V)(H:Hp)(Q:VK)(E:XK):Prop|mk (a most nm tg gs ck ch N x s:_) (h1:vs=[.ref a.p,.str x,.int s]) (h2:Sx C Cm H a most nm tg gs ck ch N) (h3:N<890) (h4:(dw nm x=none->Rs cC H E)) (h5:(dw nm x≠none->¬(1<=s/\s<=1000000)->Rs cS H E)) (h6:(dw nm x≠none->1<=s/\s<=1000000->∀H',oS a H H'->Sx C Cm H' a most (putN nm x s) tg gs ck ch N->Q .non H')):yS cC cS C Cm vs H Q E
include T in
theorem WK:eg P w K mg base (eK P w) 3 dD "reshare" ["self","name","share"] [[]] (yS cI cX dD cH):=by
 have nq:=WF P w base T;have p8:=WY P w base T;refine T.nN.jS (k:=2) WC (fun vs H Q E h=>?_) (fun f bL A outer s H vs Q E hr h=>?_)
 ·obtain⟨a,most,nm,tg,gs,ck,ch,N,x,s,rfl,_⟩:=h;rfl
 ·obtain⟨a,most,nm,tg,gs,ck,ch,N,x,s,rfl,S,hN,kc,ks,k⟩:=h;refine⟨_,(bJ (gf (j9 (dX:=[]) nq (by simp) T.dW (hr.mono (by decide)) aR (je (pv 0) rfl) (az (pv 1) (az (pv 2) aO)))) (bR (gf (j9 (dX:=[]) p8 (by simp) T.bI (hr.mono (by decide)) aR (pv 0) (az (pv 1) aO))))),?_⟩;show c9 _ _ _ [some (.ref a.p),some (.str x),some (.int s)] H;obtain⟨dx,fs,pr,hp,ft,kQ⟩:=S.ex;obtain⟨dm,fm,rV,M8,AA,gh⟩:=S.mb.ex;have nl:=S.nl;walk_at"s";refine jd hp T.bI T.fC ft.me ?_;refine kh rV (AA _ (by decide+kernel)) ⟨a.pm,a.ps,nm,x,s,rfl,S.mb,by omega,kc,ks,fun hx hs=>hR _ _ ?_⟩;have S:=S.xn (yN:=putN nm x s) (ao N) (by unfold putN;rw[aj];exact nl);have ow:oS a H (aB H a.ps (.dK (kvsOf (putN nm x s)))):=zG;generalize aB H a.ps (.dK (kvsOf (putN nm x s)))=H1 at S ow⊢;obtain⟨dx,fs,pr,hp,ft,kQ⟩:=S.ex;walk_at"rd";exact kh hp (ft.zE _) ⟨a.p,x,rfl,k hx hs _ ow S⟩
inductive FJ(C Cm:Addr)(vs:List V)(H:Hp)(Q:VK)(E:XK):Prop|mk (x dx most:_) (h1:vs=[.ref x,.int most]) (h2:H x=some (.ins C dx [])) (h3:∀pm fW H',qR x H H'->H pm=none->H fW=none->pm≠x->H' x=some (.ins C dx (ak "chosen" .non (ak "members" (.ref pm) (ak "most" (.int most) []))))->Mb Cm H' pm fW []->Q .non H'):FJ C Cm vs H Q E
include T in
theorem Ws:Ln P w K mg base (eK P w) 3 cF "__init__" ["self","most"] (FJ dB cH):=by
 have oQ:=S6 P w base T;refine T.k6.okN (k:=2) Wm (fun vs H Q E h=>?_) (fun f bL A outer s H vs Q E hr h=>?_)
 ·obtain⟨x,dx,most,rfl,_⟩:=h;rfl
 ·obtain⟨x,dx,most,rfl,hx,k⟩:=h;refine⟨_,(bJ (mz (pv 0) (pv 1) rfl) (bJ (mz (pv 0) (SM (dX:=[]) oQ (by simp) (hr.mono (by decide)) eo rfl T.sj) rfl) (bR (mz (pv 0) xE rfl)))),?_⟩;show c9 _ _ _ [some (.ref x),some (.int most)] H;have l1:=gP (fs:=[]) (f:="most") (v:=.int most);simp only[aU]at l1;walk_at"s";refine mD hx T.eU T.sF (by simp) (hR _ _ ?_);walk_at"s";intro pm dm rV Jr _;have nx:pm≠x:=fun z=>by rw[z,bh]at rV;cases rV
  have G1:H pm=none:=by rw[bw nx]at rV;exact rV
  refine⟨pm,dm,rfl,bh,fun fW H1 bt wM M=>⟨rfl,?_⟩⟩;have s1:=bt.same (xU rV Jr) rV;have tW:=s1 _ _ bh;have l2:=gP (fs:=ak "most" (.int most) []) (f:="members") (v:=.ref pm);have vm:aB H x (.ins dB dx (ak "most" (.int most) [])) fW=none:=(xU rV Jr).free wM;have BA:fW≠x:=fun z=>by rw[z,bh]at vm;cases vm
  have sL:H fW=none:=by rw[bw BA]at vm;exact vm
  refine mD tW T.eU T.jh (by omega) (hR _ _ ?_);walk_at"rd";refine mD bh T.eU T.o8 (by omega) ?_;rw[wj];refine k pm fW _ (fun b o n e=>?_) G1 sL nx bh ?_
  ·rw[bw n];exact s1 _ _ (by rw[bw n];exact e)
  ·obtain⟨d2,f2,g1,g2⟩:=M.ex;exact⟨⟨d2,f2,by rw[bw nx];exact g1,g2⟩,by rw[bw BA];exact M.hs⟩
inductive zT(C Cm:Addr)(vs:List V)(H:Hp)(Q:VK)(E:XK):Prop|mk (x dx most:_) (h1:vs=[.ref x,.int most]) (h2:H x=some (.ins C dx [])) (h3:∀(a:k9) H',a.p=x->qR x H H'->H a.pm=none->H a.ps=none->H a.pt=none->H a.pg=none->Rx C Cm H' a most [] [] [] none .non->Q .non H'):zT C Cm vs H Q E
include T in
theorem ZT:Dj P w K mg base (eK P w) 4 dB ["self","most"] [[]] (zT dB cH):=by
 have lR:=Ws P w base T;refine T.AI.okN (k:=3) Xd (fun vs H Q E h=>?_) (fun f bL A outer s H vs Q E hr h=>?_)
 ·obtain⟨x,dx,most,rfl,_⟩:=h;rfl
 ·obtain⟨x,dx,most,rfl,hx,k⟩:=h;refine⟨_,(bJ (gf (T5 lR (hr.mono (by decide)) eo rfl T.r6 (az (pv 0) (az (pv 1) aO)))) (bJ (mz (pv 0) (qQ aO) rfl) (bJ (mz (pv 0) Mf rfl) (bR (mz (pv 0) xE rfl))))),?_⟩;show c9 _ _ _ [some (.ref x),some (.int most)] H;refine bU fun R hR=>?_;walk_at"rdc";refine⟨x,dx,most,rfl,hx,fun pm fW H1 bt G1 sL nx tW M=>hR _ _ ?_⟩;have l1:=gP (fs:=[]) (f:="most") (v:=.int most);have l2:=gP (fs:=ak "most" (.int most) []) (f:="members") (v:=.ref pm);have l3:=gP (fs:=ak "members" (.ref pm) (ak "most" (.int most) [])) (f:="chosen") (v:=.non);simp only[aU]at l1;have BA:fW≠x:=fun z=>by rw[z,hx]at sL;cases sL
  have free:∀{H':Hp}{b:Addr},qR x H H'->b≠x->H' b=none->H b=none:=fun{H' b} bt n e=>by
   cases q:H b with
   |none=>rfl
   |some o=>
    have:=bt _ _ n q;rw[e]at this;cases this
  have ie:∀{H':Hp}{fs:List (Str×V)}{b:Addr}{o:HO},b≠x->H' b=some o->aB H' x (.ins dB dx fs) b=some o:=fun n e=>by rw[bw n];exact e
  generalize Na:ak "chosen" .non (ak "members" (.ref pm) (ak "most" (.int most) []))=E8 at tW l3;walk_at"s";intro pt uF;have G3:pt≠x:=fun z=>by rw[z,tW]at uF;cases uF
  have s3:=dZ (o:=.lst []) uF;have tV:aB H1 pt (.lst []) pt=some (.lst []):=bh;refine mD (s3 _ _ tW) T.eU T.j5 (by omega) (hR _ _ ?_);have NO:=free bt G3 uF;have l4:=gP (fs:=E8) (f:="queue") (v:=.ref pt);have bt:qR x H (aB (aB H1 pt (.lst [])) x (.ins dB dx (ak "queue" (.ref pt) E8))):=(bt.trans s3.but).trans IB;have tV:=ie (fs:=ak "queue" (.ref pt) E8) G3 tV;have M:Mb cH (aB (aB H1 pt (.lst [])) x (.ins dB dx (ak "queue" (.ref pt) E8))) pm fW []:=by obtain⟨d2,f2,g1,g2⟩:=(M.same s3).ex;exact⟨⟨d2,f2,ie nx g1,g2⟩,ie BA (s3 _ _ M.hs)⟩
  have GN:aB (aB H1 pt (.lst [])) x (.ins dB dx (ak "queue" (.ref pt) E8)) x=some (.ins dB dx (ak "queue" (.ref pt) E8)):=bh;generalize aB (aB H1 pt (.lst [])) x (.ins dB dx (ak "queue" (.ref pt) E8))=H4 at bt tV M GN⊢;clear s3 uF tW;walk_at"s";intro pg oY;have JN:pg≠x:=fun z=>by rw[z,GN]at oY;cases oY
  have s5:=dZ (o:=.dK []) oY;have NI:=gq M.hs oY;refine mD (s5 _ _ GN) T.eU T.j6 (by omega) (hR _ _ ?_);have NN:=free bt JN oY;have l5:=gP (fs:=ak "queue" (.ref pt) E8) (f:="rests") (v:=.ref pg);walk_at"rd";refine mD bh T.eU T.sG (by omega) ?_;rw[wj];refine k ⟨x,pm,fW,pt,pg⟩ _ rfl ((bt.trans s5.but).trans IB) G1 sL NO NN ⟨⟨dx,_,bh,?_⟩,?_,ie G3 (s5 _ _ tV),ie JN bh,NI.symm,nx.symm⟩
  ·rw[<-Na];exact FR.Eu _ _ _ _ _
  ·obtain⟨d2,f2,g1,g2⟩:=(M.same s5).ex;exact⟨⟨d2,f2,ie nx g1,g2⟩,ie BA (s5 _ _ M.hs)⟩
inductive xr(C Cm:Addr)(vs:List V)(H:Hp)(Q:VK)(E:XK):Prop|mk (a most nm q rs tu ch x:_) (h1:vs=[.ref a.p,.str x]) (h2:Rx C Cm H a most nm q rs tu ch) (h3:q.length<900) (h4:rs.length<900) (h5:dw rs x=none) (h6:∀H',oS a H H'->Rx C Cm H' a most nm (q++[x]) (rs++[(x,0)]) tu ch->Q .non H'):xr C Cm vs H Q E
include T in
theorem Xl:eg P w K mg base (eK P w) 1 dB "enter" ["self","name"] [[]] (xr dB cH):=by
 refine T.qC.okN (k:=0) WW (fun vs H Q E h=>?_) (fun f bL A outer s H vs Q E hr h=>?_)
 ·obtain⟨a,most,nm,q,rs,tu,ch,x,rfl,_⟩:=h;rfl
 ·obtain⟨a,most,nm,q,rs,tu,ch,x,rfl,S,lq,lr,hx,k⟩:=h;refine⟨_,(bJ (gf (pS bT b9 cj F1 (je (pv 0) rfl) (az (pv 1) aO))) (bR (IC (gO hr) (je (pv 0) rfl) (pv 1) aW rfl))),?_⟩;show c9 _ _ _ [some (.ref a.p),some (.str x)] H;obtain⟨dx,fs,hp,ft⟩:=S.ex;walk_at"s";refine jd hp T.eU T.j5 ft.qu ?_;refine⟨Mx S.hq,Uw S.hq (by rw[aj];omega) (hR _ _ ?_)⟩;have e:q.map V.str++[V.str x]=(q++[x]).map V.str:=by rw[aC];rfl
  rw[e];have S:=S.Kf (q':=q++[x]);have ow:oS a H (aB H a.pt (.lst ((q++[x]).map V.str))):=CD;generalize aB H a.pt (.lst ((q++[x]).map V.str))=H1 at S ow⊢;obtain⟨dx,fs,hp,ft⟩:=S.ex;walk_at"rd";refine jd hp T.eU T.j6 ft.re ?_;walk_at"rd";refine⟨_,rh.k (k:=aH x) S.hr (iG (by rw[OG];omega)),?_⟩;rw[Tp hx];exact k _ (ow.trans CC) S.Kg
section
variable{most:Int}{nm:Nm}{q:List Str}{rs:Nm}{tu:Option Str}
theorem zzc(h:Sw.RI most nm q rs tu):rs.length=nm.length/\q.length<=nm.length:=by have e1:=congrArg m6 h.ks;have e2:=h.pm.length_eq;rw[aj,aj]at e1;rw[bY,aj]at e2;exact⟨e1,by omega⟩
end
inductive CW(cT cS C Cm:Addr)(vs:List V)(H:Hp)(Q:VK)(E:XK):Prop|mk (a most nm q rs tu ch x s:_) (h1:vs=[.ref a.p,.str x,.int s]) (h2:Rx C Cm H a most nm q rs tu ch) (h3:Sw.RI most nm q rs tu) (h4:nm.length<90) (h5:(dw nm x≠none->Rs cT H E)) (h6:(dw nm x=none->¬(1<=s/\s<=1000000)->Rs cS H E)) (h7:(dw nm x=none->1<=s/\s<=1000000->∀H',oS a H H'->Rx C Cm H' a most (nm++[(x,s)]) (q++[x]) (rs++[(x,0)]) tu ch->Q .non H')):CW cT cS C Cm vs H Q E
include T in
theorem XS:eg P w K mg base (eK P w) 3 dB "put" ["self","name","share"] [[]] (CW dE cX dB cH):=by
 have jl:=RJ P w base T;have rE:=Xl P w base T;refine T.tZ.jS (k:=2) Xv (fun vs H Q E h=>?_) (fun f bL A outer s H vs Q E hr h=>?_)
 ·obtain⟨a,most,nm,q,rs,tu,ch,x,s,rfl,_⟩:=h;rfl
 ·obtain⟨a,most,nm,q,rs,tu,ch,x,s,rfl,S,h,nl,kt,ks,k⟩:=h;refine⟨_,(bJ (gf (j9 (dX:=[]) jl (by simp) T.dW (hr.mono (by decide)) aR (je (pv 0) rfl) (az (pv 1) (az (pv 2) aO)))) (bR (gf (j9 (dX:=[]) rE (by simp) T.eU (hr.mono (by decide)) aR (pv 0) (az (pv 1) aO))))),?_⟩;show c9 _ _ _ [some (.ref a.p),some (.str x),some (.int s)] H;obtain⟨dx,fs,hp,ft⟩:=S.ex;obtain⟨dm,fm,rV,M8,AA,gh⟩:=S.mb.ex;obtain⟨l1,l2⟩:=zzc h;walk_at"s";refine jd hp T.eU T.jh ft.me ?_;refine kh rV (AA _ (by decide+kernel)) ⟨a.pm,a.ps,nm,x,s,rfl,S.mb,by omega,kt,ks,fun hx hs=>hR _ _ ?_⟩;have S:=S.xn (yN:=nm++[(x,s)]);have ow:oS a H (aB H a.ps (.dK (kvsOf (nm++[(x,s)])))):=zG;generalize aB H a.ps (.dK (kvsOf (nm++[(x,s)])))=H1 at S ow⊢;walk_at"rd";exact S.JK (by decide+kernel) ⟨a,most,_,q,rs,tu,ch,x,rfl,S,by omega,by omega,(by rw[Sw.ji,h.ks,<-Sw.ji];exact hx),fun H' o' S'=>k hx hs H' (ow.trans o') S'⟩
include T in
theorem Xm:ko P w K mg base (eK P w) 1 "_law_cell_at" ["_law_script","_law_k"] (yQ K):=by
 refine T.pe.okN (k:=0) WO (fun vs H Q E h=>?_) (fun f bL A outer s H vs Q E hr h=>?_)
 ·obtain⟨a,ns,i,rfl,_⟩:=h;rfl
 ·obtain⟨a,ns,i,rfl,hS,hi,k⟩:=h;refine⟨_,(bJ (bC (iw nW (pv 1) (oJ (OD K rfl) rfl T.sJ boot_len (az (pv 0) aO)) (iq _)) (bR (ki (bE (DH K rfl) (pv 0) (pv 1) (fun _ _=>rfl)))) gX) (bR (ki aW))),?_⟩;refine⟨_,rfl,_,rfl,a,_,rfl,.inl hS,_,_,rfl,rfl,_,rfl,?_⟩;refine cy (fun h=>?_) (fun h=>?_)
  ·have h':i<(ns.map V.int).length:=of_decide_eq_true h;exact⟨_,rfl,_,rfl,a,_,_,_,rfl,rfl,hS,Yo hi (by simpa using h'),k⟩
  ·have h':¬i<(ns.map V.int).length:=fun z=>h (decide_eq_true z);show Q (.int 0) H;rw[X0 hi (by simpa using h')]at k;exact k
theorem ZU(xs:List V)(n:Nat)(h:n<=xs.length):wG xs (some (n:Int)) none=xs.drop n:=by unfold wG;rw[HT.CL,HT.Ez,Nat.min_eq_left h];exact b6 (by rw[iB];omega)
def N6(cL:Addr):Sp:=fun vs H Q E=>∃m:Int,vs=[.int m]/\(1<=m/\m<=1000000->Q .non H)/\(¬(1<=m/\m<=1000000)->Rs cL H E)
include T in
theorem XT:ko P w K mg base (eK P w) 1 "check_most" ["most"] (N6 cK):=by
 refine T.sR.jS (k:=0) Xp (fun vs H Q E h=>?_) (fun f bL A outer s H vs Q E hr h=>?_)
 ·obtain⟨m,rfl,_⟩:=h;rfl
 ·obtain⟨m,rfl,k,kx⟩:=h;refine⟨_,(bR (bC (Be (Ir fG fG aW (pv 0) (Aa rfl T.mU))) (bR (mw K rfl rfl mC (oK T.kM T.kR rfl T.jg (az gg aO)))) gX)),?_⟩;show uh _ _ _ _ [some (.int m)] H;walk_at"rd";refine cy (fun c1=>cy (fun c2=>k ⟨c1,c2⟩) fun c2=>eW (kx fun q=>c2 q.2) T.gc) fun c1=>eW (kx fun q=>c1 q.1) T.gc
def Oa:Sp:=fun vs H Q _=>∃z:Str,vs=[.str z]/\z.length<=10000/\∀H',aQ H H'->Q (.bl (decide (wk z))) H'
include T in
theorem Zb:ko P w K mg base (eK P w) 1 "is_name" ["text"] Oa:=by
 refine T.xx.okN (k:=0) Yz (fun vs H Q E h=>?_) (fun f bL A outer s H vs Q E hr h=>?_)
 ·obtain⟨z,rfl,_⟩:=h;rfl
 ·obtain⟨z,rfl,zl,k⟩:=h;refine⟨_,(bR (ki (Mu (KY fG fG aW (oJ RK rfl T.sJ boot_len (az (pv 0) aO)) (Aa rfl T.qF)) (Uk (oJ (SG K rfl rfl) rfl T.Cy boot_all (az (sN ["sign"] [] rfl (by with_unfolding_all rfl) (by decide+kernel) rfl (by decide+kernel) (by exact bB) (by with_unfolding_all rfl) bB (UE (pv 0)) (fun _ _ _=>(Ac (i:=0) (show(["sign"]:List Str).Nodup from by decide+kernel) rfl (by first|left;rfl|right;rfl))) (fun _ _ _=>KZ) (fun _ _ _=>(K1 UF (pv 0) (Iz rfl T.yI) rfl))) aO)))))),?_⟩;show qL _ _ [some (.str z)] H;walk_at"rd";have no:∀{H'},aQ H H'->¬wk z->Q (.bl false) H':=fun s q=>by have:=k _ s;rw[decide_eq_false q]at this;exact this
  refine⟨Bc (by omega),cy (fun c1=>cy (fun c2=>?_) fun c2=>no (aQ.refl _) fun q=>c2 (by have:=q.1.2;omega)) fun c1=>no (aQ.refl _) fun q=>c1 (by have:=q.1.1;omega)⟩;simp only[GP];walk_at"rd";intro D hD;show uq _ _ _ _ D [none] _ _;refine Tq (fun i τ H'=>(∃v,τ=[v])/\aQ H H'/\H' D=some (.lst (((z.cps.toList.take i).map fun c=>decide (c∈lets.cps.toList)).map V.bl))) ⟨⟨none,rfl⟩,dZ hD,bh⟩ ?_ ?_
  ·rintro i c τ H' hc ⟨⟨v,rfl⟩,s',v9⟩;have hi:=(aE.mp hc).1;rw[Sw.len_list]at hi;walk_at"rd";simp only[De,if_true];walk_at"rd";refine⟨sg c,lets,rfl,rfl,?_⟩;refine⟨_,v9,F5 (by rw[aj,aj,eZ];omega),fun b o e=>?_,?_⟩
   ·rw[bw (gq e hD)];exact s' _ _ e
   ·rw[bh,sY hc,aC,aC];show some (HO.lst (_++[V.bl (Txt.contains lets (sg c))]))=some (HO.lst (_++[V.bl (decide (c∈lets.cps.toList))]));rw[Sw.in_str lets c]
  ·rintro τ H1 ⟨_,s1,v9⟩;rw[<-Sw.len_list,kE]at v9;refine⟨D,_,rfl,.of v9,?_⟩;have e:((z.cps.toList.map fun c=>decide (c∈lets.cps.toList)).all id)=decide (wk z):=by
    rw[eO,iy,decide_eq_true_iff];constructor
    ·intro h;refine⟨⟨by omega,by omega⟩,fun c hc=>?_⟩;have:=h _ (aZ.mpr ⟨c,hc,rfl⟩)
     simpa using this
    ·intro h x hx;obtain⟨c,hc,rfl⟩:=aZ.mp hx
     simpa using h.2 c hc
   rw[e];exact k _ s1
def N7(cS cR cM:Addr):Sp:=fun vs H Q _=>∃(kd:Str)(m:Int),vs=[.str kd,.int m]/\1<=m/\(jI kd->∀(a:k9) H',aQ H H'->(∀b∈jY a,H b=none)->Ag cS cR cM H' a m (gJ.new (uG kd))->Q (.ref a.p) H')/\(¬jI kd->Q .non H)
include T in
theorem RX:ko P w K mg base (eK P w) 6 "chooser_of" ["kind","most"] (N7 dD dB cH):=by
 have rA:=TJ P w base T;have BK:=ZT P w base T;refine T.sS.okN (k:=5) Xq (fun vs H Q E h=>?_) (fun f bL A outer s H vs Q E hr h=>?_)
 ·obtain⟨c,m,rfl,_⟩:=h;rfl
 ·obtain⟨kd,m,rfl,m1,k,kn⟩:=h;refine⟨_,(bJ (bC (iw fh (pv 0) gg (iq _)) (bR (ki (DI (dX:=[]) rA (by simp) (hr.mono (by decide)) eo rfl T.uM (az (pv 1) aO)))) gX) (bJ (bC (iw fh (pv 0) gg (iq _)) (bR (ki (DI (dX:=[]) BK (by simp) (hr.mono (by decide)) eo rfl T.AR (az (pv 1) aO)))) gX) (bR (ki xE)))),?_⟩;show c9 _ _ _ [some (.str kd),some (.int m)] H;have no:∀{H1:Hp}{b:Addr},aQ H H1->H1 b=none->H b=none:=fun{H1 b} s e=>by
   cases z:H b with
   |none=>rfl
   |some o=>rw[s _ _ z]at e;cases e
  have nw:∀{a:k9}{H1:Hp},aQ H H1->H a.p=none->H1 a.pm=none->H1 a.ps=none->H1 a.pt=none->H1 a.pg=none->∀b∈jY a,H b=none:=fun{a H1} s h1 h2 h3 h4 h5 b hb=>by
   rcases gz.mp hb with z|z|z|z|z <;> subst z
   ·exact h1
   ·exact no s h2
   ·exact no s h3
   ·exact no s h4
   ·exact no s h5
  walk_at"s";refine cy (fun c1=>?_) fun c1=>hR _ _ ?_
  ·intro x dx hx wc ne;refine⟨x,dx,m,rfl,bh,fun a H2 ea bt n1 n2 n3 n4 S=>⟨rfl,?_⟩⟩;subst ea;have e:uG kd=false:=by rw[c1];decide+kernel
   exact k (.inl c1) a H2 (bt.same (xU hx wc) hx) (nw (xU hx wc) hx n1 n2 n3 n4) (by rw[e];exact S)
  clear hR;walk_at"s";refine cy (fun c2=>?_) fun c2=>hR _ _ ?_
  ·intro x dx hx wc ne;refine⟨x,dx,m,rfl,bh,fun a H2 ea bt n1 n2 n3 n4 S=>⟨rfl,?_⟩⟩;subst ea;have e:uG kd=true:=by rw[c2];decide+kernel
   exact k (.inr c2) a H2 (bt.same (xU hx wc) hx) (nw (xU hx wc) hx n1 n2 n3 n4) (by rw[e];exact S)
  walk_at"rd";exact kn fun q=>q.elim c1 c2
inductive Ho(cN:Addr)(vs:List V)(H:Hp)(Q:VK)(E:XK):Prop|mk (x dx ab ch rm:_) (h1:vs=[.ref x,ab,ch,rm]) (h2:H x=some (.ins cN dx [])) (h3:∀ql fs H',qR x H H'->H ql=none->H' x=some (.ins cN dx fs)->FN fs ab ch rm .non ql->H' ql=some (.lst [])->Q .non H'):Ho cN vs H Q E
include T in
theorem UL:Dj P w K mg base (eK P w) 1 cZ ["self","above","chooser","room"] [[],[V.non]] (Ho cZ):=by
 refine T.Em.okN (k:=0) XM (fun vs H Q E h=>?_) (fun f bL A outer s H vs Q E hr h=>?_)
 ·obtain⟨x,dx,ab,ch,rm,rfl,_⟩:=h;rfl
 ·obtain⟨x,dx,ab,ch,rm,rfl,hx,k⟩:=h;refine⟨_,(bJ (mz (pv 0) (pv 1) rfl) (bJ (mz (pv 0) (pv 2) rfl) (bJ (mz (pv 0) (pv 3) rfl) (bJ (mz (pv 0) xE rfl) (bR (mz (pv 0) (qQ aO) rfl)))))),?_⟩;show c9 _ _ _ [some (.ref x),some ab,some ch,some rm] H;have l1:=gP (fs:=[]) (f:="above") (v:=ab);have l2:=gP (fs:=ak "above" ab []) (f:="chooser") (v:=ch);have l3:=gP (fs:=ak "chooser" ch (ak "above" ab [])) (f:="room") (v:=rm);have l4:=gP (fs:=ak "room" rm (ak "chooser" ch (ak "above" ab []))) (f:="bucket") (v:=.non);simp only[aU]at l1;walk_at"s";refine mD hx T.fJ T.l8 (by simp) (hR _ _ ?_);clear hR;walk_at"s";refine mD bh T.fJ T.fc (by omega) (hR _ _ ?_);clear hR;rw[wj];walk_at"s";refine mD bh T.fJ T.vA (by omega) (hR _ _ ?_);clear hR;rw[wj];walk_at"s";refine mD bh T.fJ T.iU (by omega) (hR _ _ ?_);clear hR;rw[wj];walk_at"rd";intro ql Lu;have nx:ql≠x:=fun z=>by rw[z,bh]at Lu;cases Lu
  have Ij:H ql=none:=by rw[bw nx]at Lu;exact Lu
  refine mD (by rw[bw (bV nx),bh]) T.fJ T.l9 (by omega) ?_;refine k ql _ _ (fun b o n e=>?_) Ij bh (FN.Eu _ _ _ _ _) ?_
  ·rw[bw n,bw (gq e Ij),bw n];exact e
  ·rw[bw nx,bh]
def N1(cC:Addr)(C:Cl):Sp:=fun vs H Q E=>∃(D:TD)(x:Str),vs=[.ref D.p,.str x]/\d9 C H D/\(x≠eI->bA D.ns x≠none->Q .non H)/\(x=eI\/bA D.ns x=none->Rs cC H E)
include T in
theorem LZ:eg P w K mg base (eK P w) 1 dH "check_class" ["self","name"] [[]] (N1 cI (⟨cZ,dD,dB,cH,cD,dH⟩:Cl)):=by
 refine T.lU.jS (k:=0) Wo (fun vs H Q E h=>?_) (fun f bL A outer s H vs Q E hr h=>?_)
 ·obtain⟨D,x,rfl,_⟩:=h;rfl
 ·obtain⟨D,x,rfl,O,k,kx⟩:=h;refine⟨_,(bR (bC (PW.pt (pw_or (iw fh (pv 1) (Iz rfl T.zD) (iq _)) (Mt (K9 (OF (gO hr) (pv 1) (je (pv 0) rfl)))))) (bR (mw K rfl rfl mC (oK T.mQ T.mR rfl T.jZ (az gg aO)))) gX)),?_⟩;show uh _ _ _ _ [some (.ref D.p),some (.str x)] H;obtain⟨dx,fs,hp,ft⟩:=O.ex;walk_at"rd";refine cy (fun c1=>eW (kx (.inl c1)) T.iW) fun c1=>?_;refine jd hp T.aS T.bN ft.no ?_;walk_at"rd";refine⟨_,kj.k (k:=aH x) O.hn,?_⟩;rw[K6];cases e:bA D.ns x with
  |none=>exact eW (kx (.inr e)) T.iW
  |some v=>exact k c1 (by rw[e];simp)
inductive Ks(C:Cl)(vs:List V)(H:Hp)(Q:VK)(E:XK):Prop|mk (D:TD) (x:Str) (ys:List Str) (h1:vs=[.ref D.p,.str x]) (h2:d9 C H D) (h3:Up D.ns x ys) (h4:ys.length<=900) (h5:∀l H',aQ H H'->H l=none->H' l=some (.lst (ys.reverse.map V.str))->Q (.ref l) H'):Ks C vs H Q E
include T in
theorem Q8:eg P w K mg base (eK P w) 1 dH "from_road" ["self","name"] [[]] (Ks (⟨cZ,dD,dB,cH,cD,dH⟩:Cl)):=by
 refine T.nO.okN (k:=0) gC (fun vs H Q E h=>?_) (fun f bL A outer s H vs Q E hr h=>?_)
 ·obtain⟨D,x,ys,rfl,_⟩:=h;rfl
 ·obtain⟨D,x,ys,rfl,O,U,yl,k⟩:=h;refine⟨_,(bJ (jR (i:=2) gC.nd rfl (qQ aO)) (bJ (Ma PassesOwn.never (iw IA (pv 1) xE (iq _)) (bJ (gf (pS bT b9 cj F1 (pv 2) (az (pv 1) aO))) (bR (jR (i:=1) gC.nd rfl (je (HD (gO hr) (je (pv 0) rfl) (pv 1) (fun _ _=>rfl)) rfl))))) (bJ (gf (zyf bT PySem.F.slot_list_reverse PySem.F.type_list_reverse Yn (pv 2))) (bR (ki (pv 2)))))),?_⟩;show c9 _ _ _ [some (.ref D.p),some (.str x),none] H;walk_at"s";intro l hl;have s0:=dZ (o:=.lst []) hl;refine hR _ _ ?_;clear hR;refine bU fun R hR=>?_;refine T4 (fun m σ H'=>∃(xo:Option Str)(zs ws:List Str),σ=[some (.ref D.p),some (CB xo),some (.ref l)]/\aQ H H'/\H' l=some (.lst (zs.map V.str))/\ys=zs++ws/\(∀z,xo=some z->Up D.ns z ws)/\(xo=none->ws=[])/\m=ws.length) ⟨some x,[],ys,rfl,s0,bh,rfl,fun z e=>(by cases e;exact U),fun e=>(by cases e),rfl⟩ ?_;rintro m σ H1 ⟨xo,zs,ws,rfl,s1,h1,ey,hu,hn,rfl⟩;cases xo with
  |none=>
   refine⟨false,fun Q hQ=>?_,fun z=>(by cases z),fun _=>?_⟩
   ·walk_at"rd";exact hQ
   ·have:ws=[]:=hn rfl;subst this;rw[aN]at ey;subst ey;refine hR _ _ ?_;clear hR;walk_at"s";refine⟨Mx h1,l,_,rfl,rfl,h1,hR _ _ ?_⟩;walk_at"rd";refine k l _ (fun b o e=>?_) hl ?_
    ·rw[bw (gq e hl)];exact s1 _ _ e
    ·rw[bh,tK]
  |some z=>
   have Uz:=hu z rfl;obtain⟨n,hz⟩:=Uz.Pz;refine⟨true,fun Q hQ=>?_,fun _=>?_,fun z=>by cases z⟩
   ·walk_at"rd";exact hQ
   ·have zl:zs.length<=900:=by rw[ey,bY]at yl;omega
    walk_at"s";refine⟨Mx h1,Uw h1 (by rw[aj];omega) (hR _ _ ?_)⟩;clear hR;have O1:=O.same s1;have s2:aQ H (aB H1 l (.lst (zs.map V.str++[.str z]))):=fun b o e=>by rw[bw (gq e hl)];exact s1 _ _ e
    have O2:=O.same s2;have h2:aB H1 l (.lst (zs.map V.str++[.str z])) l=some (.lst ((zs++[z]).map V.str)):=by rw[bh,aC];rfl
    show yX _ _ _ _ (aB H1 l (.lst (zs.map V.str++[.str z])));generalize aB H1 l (.lst (zs.map V.str++[.str z]))=H2 at s2 O2 h2⊢;obtain⟨dx,fs,hp,ft⟩:=O2.ex;obtain⟨uQ,_⟩:=Ad hz;obtain⟨dn,fn,xO,wK⟩:=(O2.nd n uQ).ex;walk_at"rd";refine jd hp T.aS T.bN ft.no ?_;walk_at"rd";refine⟨_,sI O2 hz,?_⟩;refine jd xO T.fJ T.l8 wK.ab ?_;cases Uz with
    |top q1 q2=>
     rw[hz]at q1;cases q1
     exact⟨0,by simp,none,by rw[q2],s2,zs++[z],h2,[],by rw[aN];exact ey,fun z e=>(by cases e),fun _=>rfl,rfl⟩
    |on q1 q2 q3=>
     rw[hz]at q1;cases q1
     rename_i y QN
     exact⟨QN.length,by simp,some y,by rw[q2],s2,zs++[z],h2,QN,by rw[ey];simp,fun z e=>(by cases e;exact q3),fun e=>(by cases e),rfl⟩
inductive Km(cP:Addr)(C:Cl)(vs:List V)(H:Hp)(Q:VK)(E:XK):Prop|mk (D:TD) (u kd:Str) (n:ND) (ys:List Str) (h1:vs=[.ref D.p,.str u,.str kd]) (h2:d9 C H D) (h3:bA D.ns u=some n) (h4:Up D.ns u ys) (h5:ys.length<=900) (h6:(∀H',aQ H H'->¬(nK kd/\n.ch≠none/\ys.length<=5)->Rs cP H' E)) (h7:(∀H',aQ H H'->nK kd/\n.ch≠none/\ys.length<=5->Q .non H')):Km cP C vs H Q E
include T in
theorem Wx:eg P w K mg base (eK P w) 2 dH "check_place" ["self","under","kind"] [[]] (Km cV (⟨cZ,dD,dB,cH,cD,dH⟩:Cl)):=by
 have gQ:=Q8 P w base T;refine T.lV.jS (k:=1) Wp (fun vs H Q E h=>?_) (fun f bL A outer s H vs Q E hr h=>?_)
 ·obtain⟨D,u,kd,n,ys,rfl,_⟩:=h;rfl
 ·obtain⟨D,u,kd,n,ys,rfl,O,hu,U,yl,kx,k⟩:=h;obtain⟨jw,jr,jx⟩:=T.kT;refine⟨_,(bJ (bC (PW.pt (La (iw w6 (pv 2) (Iz rfl T.zB) (iq _)) (Mh (iw (SR K rfl) (pv 2) (uU (v:=.ref jw) rfl jr rfl) rfl)))) (bR (mw K rfl rfl mC (oK T.iQ T.iS rfl T.gR (az gg aO)))) gX) (bJ (bC (iw Um (je (HD (gO hr) (je (pv 0) rfl) (pv 1) (fun _ _=>rfl)) rfl) xE (iq _)) (bR (mw K rfl rfl mC (oK T.iQ T.iS rfl T.gR (az gg aO)))) gX) (bR (bC (iw JV (oJ (OD K rfl) rfl T.sJ boot_len (az (j9 (dX:=[]) gQ (by simp) T.aS (hr.mono (by decide)) aR (pv 0) (az (pv 1) aO)) aO)) (Aa rfl T.r9) (iq _)) (bR (mw K rfl rfl mC (oK T.iQ T.iS rfl T.gR (az gg aO)))) gX)))),?_⟩;show c9 _ _ _ [some (.ref D.p),some (.str u),some (.str kd)] H;obtain⟨dx,fs,hp,ft⟩:=O.ex;obtain⟨uQ,_⟩:=Ad hu;obtain⟨dn,fn,xO,wK⟩:=(O.nd n uQ).ex;walk_at"s";have on:nK kd->R [some (.ref D.p),some (.str u),some (.str kd)] H:=fun ok=>hR _ _ (by
   clear hR;walk_at"s";refine jd hp T.aS T.bN ft.no ?_;walk_at"rd";refine⟨_,sI O hu,?_⟩;refine jd xO T.fJ T.fc wK.ch ?_;cases hc:n.ch with
   |none=>
    walk_at"rd";exact eW (kx H (aQ.refl _) fun q=>q.2.1 hc) T.gW
   |some c=>
    show R _ _;refine hR _ _ ?_;walk_at"rd";refine kh hp (uN ft _) ⟨D,u,ys,rfl,O,U,yl,fun l H' s' hl e=>?_⟩;refine Us (.of e) ⟨_,rfl,?_⟩;rw[aj,oF];refine cy (fun c2=>eW (kx H' s' fun q=>by omega) T.gW) fun c2=>k H' s' ⟨ok,by rw[hc];simp,by omega⟩)
  refine cy (fun c1=>on (.inl c1)) fun c1=>?_;refine⟨_,_,rfl,.inr (jx H),rfl,rfl,_,rfl,?_⟩;rw[Tw,if_pos rfl];by_cases c2:jI kd
  ·rw[if_neg (by simp[c2])];exact on (.inr c2)
  ·rw[if_pos (by simp[c2])];exact eW (kx H (aQ.refl _) fun q=>q.1.elim c1 c2) T.gW
inductive KC(cN cT cC cP cS cL:Addr)(C:Cl)(vs:List V)(H:Hp)(Q:VK)(E:XK):Prop|mk (D:TD) (x u kd:Str) (s:Int) (rm:V) (h1:vs=[.ref D.p,.str x,.str u,.str kd,.int s,rm]) (h2:d9 C H D) (h3:D.Wf) (h4:D.fit) (h5:MI 10000 x) (h6:(rm= .non\/∃r,rm= .int r)) (h7:(∀r,jL D x u kd s rm=some r->∀H',aQ H H'->Rs (r.at cN cT cC cP cS cL) H' E)) (h8:(jL D x u kd s rm=none->∀(un:ND)(c:k9×gJ)(n:ND) H',bA D.ns u=some un->un.ch=some c->n.nm=x->n.ab=some u->n.rm=rm->n.bk=none->n.ps=[]->n.qu=[]->(kd=Str.ofString "leaf"->n.ch=none)->(jI kd->∃a,n.ch=some (a,gJ.new (uG kd)))->(∀b∈n.foot,H b=none)->d9 C H' (D.put un c s n)->tO D.foot H H'->Q .non H')):KC cN cT cC cP cS cL C vs H Q E
include T in
theorem YA:eg P w K mg base (eK P w) 7 dH "put" ["self", "name", "under", "kind", "share", "room"] [[],[V.non]] (KC cQ dE cI cV cX cK (⟨cZ,dD,dB,cH,cD,dH⟩:Cl)):=by
  have Ai:=Zb P w base T
  have mH:=Wx P w base T
  have fN:=Ot P w base T
  have iF:=RW P w base T
  have u7:=XS P w base T
  have xY:=UL P w base T
  have jV:=RX P w base T
  refine T.wV.jS (k:=6) X7 (fun vs H Q E h=>?_) (fun f bL A outer s H vs Q E hr h=>?_)
  · obtain ⟨D,x,u,kd,s,rm,rfl,_⟩:=h
    rfl
  · obtain ⟨D,x,u,kd,s,rm,rfl,O,W,F,xl,VL,kx,k⟩:=h
    refine ⟨_,(bJ (bC (Be (Bd (gE Ai (hr.mono (by decide)) rfl aR (az (pv 1) aO)))) (bR (mw K rfl rfl mC (oK T.Aw T.AM rfl T.uL (az gg aO)))) gX) (bJ (bC (K9 (UA (gO hr) (pv 1) (je (pv 0) rfl))) (bR (mw K rfl rfl mC (oK T.wH T.wQ rfl T.sD (az gg aO)))) gX) (bJ (bC (K9 (OF (gO hr) (pv 2) (je (pv 0) rfl))) (bR (mw K rfl rfl mC (oK T.mQ T.mR rfl T.jZ (az gg aO)))) gX) (bJ (gf (j9 (dX:=[]) mH (by simp) T.aS (hr.mono (by decide)) aR (pv 0) (az (pv 2) (az (pv 3) aO)))) (bJ (gf (gE fN (hr.mono (by decide)) rfl aR (az (pv 4) aO))) (bJ (bC (PW.pt (La (iw fh (pv 3) (Iz rfl T.zB) (iq _)) (La (iw IA (pv 5) xE (iq _)) (Mh (iw nW (pv 5) aW (iq _)))))) (bR (mw K rfl rfl mC (oK T.kM T.kR rfl T.jg (az gg aO)))) gX) (bJ (gf (zyw (j9 (dX:=[]) iF (by simp) T.bI (hr.mono (by decide)) aR (je (HD (gO hr) (je (pv 0) rfl) (pv 2) (fun _ _=>rfl)) rfl) (az (pv 1) (az (pv 4) aO))) (j9 (dX:=[]) u7 (by simp) T.eU (hr.mono (by decide)) aR (je (HD (gO hr) (je (pv 0) rfl) (pv 2) (fun _ _=>rfl)) rfl) (az (pv 1) (az (pv 4) aO))))) (bR (IC (gO hr) (je (pv 0) rfl) (pv 1) (DI (dX:=[]) xY (by simp) (hr.mono (by decide)) aR rfl T.zC (az (pv 2) (az (gE jV (hr.mono (by decide)) rfl aR (az (pv 3) (az (je (pv 0) rfl) aO))) (az (pv 5) aO)))) rfl))))))))),?_⟩
    show c9 _ _ _ [some (.ref D.p),some (.str x),some (.str u),some (.str kd),some (.int s),some rm] H
    walk_at "s"
    refine ⟨x,rfl,xl.2,fun H1 s1=>?_⟩
    by_cases c1:wk x
    case neg =>
      rw [decide_eq_false c1]
      walk_at "rd"
      exact eW (kx _ (Mg c1) H1 s1) T.uT
    rw [decide_eq_true c1]
    walk_at "rd"
    refine hR _ _ ?_
    clear hR
    have O1:=O.same s1
    obtain ⟨dx,fs,hp,ft⟩:=O1.ex
    walk_at "s"
    refine jd hp T.aS T.bN ft.no ?_
    walk_at "rd"
    refine ⟨_,kj.k (k:=aH x) O1.hn,?_⟩
    rw [K6]
    cases hx:bA D.ns x with
    | some v =>
      exact eW (kx _ (SY c1 (by rw [hx]; simp)) H1 s1) T.tF
    | none =>
    refine hR _ _ ?_
    clear hR
    walk_at "s"
    refine jd hp T.aS T.bN ft.no ?_
    walk_at "rd"
    refine ⟨_,kj.k (k:=aH u) O1.hn,?_⟩
    rw [K6]
    cases hu:bA D.ns u with
    | none =>
      exact eW (kx _ (Ua c1 hx hu) H1 s1) T.iW
    | some un =>
    refine hR _ _ ?_
    clear hR
    obtain ⟨xT,Io⟩:=Ad hu
    obtain ⟨ys,U,yl⟩:=W.up un xT
    rw [Io] at U
    walk_at "s"
    refine kh hp (uN ft _) ⟨D,u,kd,un,ys,rfl,O1,hu,U,by omega,fun H2 s2 IW=>?_,fun H2 s2 Gv=>hR _ _ ?_⟩
    · exact kx _ (OH c1 hx hu fun q=>IW ⟨q.1,q.2.1,q.2.2 ys U⟩) H2 (s1.trans s2)
    clear hR
    have gd:nK kd/\un.ch≠none/\∀ ys,Up D.ns u ys->ys.length<=5:=⟨Gv.1,Gv.2.1,fun zs z=>by rw [<- U.det z]; exact Gv.2.2⟩
    walk_at "s"
    refine ⟨s,rfl,fun c3=>hR _ _ ?_,fun c3=>kx _ (S0 c1 hx hu gd c3) H2 (s1.trans s2)⟩
    clear hR
    have LK:=s1.trans s2
    have O2:=O.same LK
    clear hp ft dx fs O1 s1 s2
    walk_at "s"
    have post:¬ (kd=Str.ofString "leaf" /\ ∃ r:Int,rm = .int r/\r<0)->R [some (.ref D.p),some (.str x),some (.str u),some (.str kd),some (.int s),some rm] H2:=fun c4=>hR _ _ (by
      clear hR
      have k:=k (Tz c1 hx hu gd c3 c4)
      cases hc:un.ch with
      | none=>exact absurd hc gd.2.1
      | some c =>
      obtain ⟨dx,fs,hp,ft⟩:=O2.ex
      have N2:=O2.nd un xT
      obtain ⟨dn,fn,xO,wK⟩:=N2.ex
      rw [hc] at wK
      have CS:=N2.ch c hc
      have Gr:=W.Gr un xT c hc
      have nx:dw c.2.nm x=none:=by
        rw [Sw.ji,W.GU un xT c hc]
        intro z
        unfold ju at z
        obtain ⟨y,hy,e⟩:=aZ.mp z
        exact iR.mp hx (aZ.mpr ⟨y,(lM.mp hy).1,e⟩)
      have U9:=F.2 un xT c hc
      have fl:=F.1
      have kl:=W.Er xT hc
      obtain ⟨a,cs⟩:=c
      refine bU fun R hR=>?_
      have Pr:∀ H3,oS a H2 H3->Ag dD dB cH H3 a D.most (cs.put x s)->R [some (.ref D.p),some (.str x),some (.str u),some (.str kd),some (.int s),some rm] H3:=fun H3 ow C3=>hR _ _ (by
        clear hR
        have O3:=O2.D8 W.nn xT hc ow C3
        obtain ⟨d3,f3,tU,Vn⟩:=O3.ex
        walk_at "rd"
        refine jd tU T.aS T.iH Vn.mo ?_
        walk_at "rd"
        have b3:∀ {b o},H b=some o->∃ o',H3 b=some o':=fun {b o} e=>by
          by_cases q:b∈jY a
          · exact (C3.at q).imp fun _ z=>z.1
          · exact ⟨o,ow.B3 _ _ q (LK _ _ e)⟩
        have n3:∀ {b},H3 b=none->H b=none:=fun {b} e=>by
          cases z:H b with
          | none=>rfl
          | some o=>obtain ⟨o',z'⟩:=b3 z; rw [e] at z'; cases z'
        have VQ:bA (dY D.ns { un with ch:=some (a,cs.put x s) }) x=none:=by
          rw [ID]
          split
          · rw [hx]; rfl
          · exact hx
        have gM:∀ (Dt:Option (k9×gJ)) (H4:Hp),aQ H3 H4->(∀ c,Dt=some c->Ag dD dB cH H4 c.1 D.most c.2/\∀ b∈jY c.1,H3 b=none)->(kd=Str.ofString "leaf" -> Dt=none)->(jI kd->∃ a,Dt=some (a,gJ.new (uG kd)))->∀ y dy,H4 y=none->H4 dy=none ->
            Ho cZ [V.ref y,V.str u,IY Dt,rm] (aB (aB H4 dy (.own y)) y (.ins cZ dy [])) (fun v H2=>v=V.non/\G8 K (Str.ofString "nodes") (V.ref D.p) H2 fun x3 H2=>∃ a,x3=V.ref a/\∃ x4,rh H2 a (V.str x) (V.ref y) x4/\Q V.non x4) (fun v d H'=>E v d H'):=fun Dt H4 s4 yr VY Bu y dy hy Dz=>by
          refine ⟨y,dy,.str u,IY Dt,rm,rfl,bh,fun ql fs H5 bt hq h1 h2 h3=>⟨rfl,?_⟩⟩
          obtain ⟨s5,N5,Vi,q4⟩:=lP.new (C:=(⟨cZ,dD,dB,cH,cD,dH⟩:Cl)) (m:=D.most) (nm:=x) (ab:=some u) hy Dz bt hq h1 h2 h3 fun c e=>(yr c e).1
          have O5:=O3.same (s4.trans s5)
          obtain ⟨d5,f5,VI,Vo⟩:=O5.ex
          have Qy:∀ {b},H4 b=none->H3 b=none:=fun {b} e=>by
            cases z:H3 b with
            | none=>rfl
            | some o=>rw [s4 _ _ z] at e; cases e
          have fr:∀ b∈ND.foot ⟨x,y,ql,some u,Dt,rm,none,[],[]⟩,H3 b=none:=fun b hb=>by
            unfold ND.foot at hb
            rcases ah.mp hb with z | hb
            · rw [z]; exact Qy hy
            rcases ah.mp hb with z | hb
            · rw [z]; exact Qy q4
            rcases aA.mp hb with z | z
            · cases Dt with
              | none=>cases z
              | some c=>exact (yr c rfl).2 b z
            · cases z
          refine jd VI T.aS T.bN Vo.no ?_
          refine ⟨_,rfl,_,rh.k (k:=aH x) O5.hn (F5 (by rw [T9]; unfold dY; rw [aj]; omega)),?_⟩
          have e5:=zxh (n:=⟨x,y,ql,some u,Dt,rm,none,[],[]⟩) VQ
          rw [e5]
          refine k un (a,cs) ⟨x,y,ql,some u,Dt,rm,none,[],[]⟩ _ hu hc rfl rfl rfl rfl rfl rfl VY Bu (fun b hb=>n3 (fr b hb)) (O3.snoc (s4.trans s5) N5 Vi fr) fun b o nb e=>?_
          rw [bw (fun z=>nb (by rw [z]; exact af _ (aq ..)))]
          refine s5 _ _ (s4 _ _ (ow.B3 _ _ (fun z=>nb (TD.ig xT ?_)) (LK _ _ e)))
          unfold ND.foot
          rw [hc]
          exact af _ (af _ (aA.mpr (.inl z)))
        refine ⟨kd,D.most,rfl,W.m1.1,fun ik a' H4 s4 na C4 y dy hy Dz _=>gM (some (a',gJ.new (uG kd))) H4 s4 (fun c e=>?_) (fun e=>?_) (fun _=>⟨a',rfl⟩) y dy hy Dz,fun nk y dy hy Dz _=>gM none H3 (aQ.refl _) (fun c e=>by cases e) (fun _=>rfl) (fun z=>absurd z nk) y dy hy Dz⟩
        · cases e; exact ⟨C4,na⟩
        · subst e
          exact absurd ik (by decide +kernel))
      clear hR
      walk_at "rd"
      cases cs with
      | st nm tg gs ck ch N =>
        refine .inl ?_
        walk_at "rd"
        refine jd hp T.aS T.bN ft.no ?_
        walk_at "rd"
        refine ⟨_,sI O2 hu,?_⟩
        refine jd xO T.fJ T.fc wK.ch ?_
        have S:Sx dD cH H2 a D.most nm tg gs ck ch N:=CS
        obtain ⟨E4,yo,pr,VH,Vm,kQ⟩:=S.ex
        refine kh VH (Vm.zE _) ⟨a,D.most,nm,tg,gs,ck,ch,N,x,s,rfl,S,?_,fun z=>absurd nx z,fun _ z=>absurd c3 z,fun _ _ H3 ow S'=>Pr H3 ow S'⟩
        have:N<=800:=U9
        omega
      | rd nm q rs tu ch =>
        refine .inr ?_
        walk_at "rd"
        refine jd hp T.aS T.bN ft.no ?_
        walk_at "rd"
        refine ⟨_,sI O2 hu,?_⟩
        refine jd xO T.fJ T.fc wK.ch ?_
        have S:Rx dB cH H2 a D.most nm q rs tu ch:=CS
        refine S.JK (by decide +kernel) ⟨a,D.most,nm,q,rs,tu,ch,x,s,rfl,S,Gr.2,?_,fun z=>absurd nx z,fun _ z=>absurd c3 z,fun _ _ H3 ow S'=>Pr H3 ow S'⟩
        have:nm.length<=D.ns.length:=kl
        omega)
    clear hR
    refine cy (fun c4=>cy (fun c5=>post fun q=>?_) fun c5=>?_) fun c4=>post fun q=>c4 q.1
    · obtain ⟨r,e,_⟩:=q.2
      rw [c5] at e; cases e
    · obtain ⟨r,e⟩:=VL.resolve_left c5
      refine ⟨r,e,cy (fun c6=>eW (kx _ (Yy c1 hx hu gd c3 ⟨c4,r,e,c6⟩) H2 LK) T.gc) fun c6=>post fun q=>?_⟩
      obtain ⟨r',e',h'⟩:=q.2
      rw [e] at e'; cases e'
      exact c6 h'
def Of(cC:Addr)(C:Cl):Sp:=fun vs H Q E=>∃(D:TD)(x:Str),vs=[.ref D.p,.str x]/\d9 C H D/\D.Wf/\(x=eI\/bA D.ns x=none->Rs cC H E)/\(x≠eI->∀ys,Up D.ns x ys->∀l H',aQ H H'->H l=none->H' l=some (.lst (ys.reverse.tail.map V.str))->Q (.ref l) H')
include T in
theorem YB:eg P w K mg base (eK P w) 2 dH "way" ["self","name"] [[]] (Of cI (⟨cZ,dD,dB,cH,cD,dH⟩:Cl)):=by
 have c8:=LZ P w base T;have gQ:=Q8 P w base T;refine T.wW.jS (k:=1) X8 (fun vs H Q E h=>?_) (fun f bL A outer s H vs Q E hr h=>?_)
 ·obtain⟨D,x,rfl,_⟩:=h;rfl
 ·obtain⟨D,x,rfl,O,W,kx,k⟩:=h;refine⟨_,(bJ (gf (j9 (dX:=[]) c8 (by simp) T.aS (hr.mono (by decide)) aR (pv 0) (az (pv 1) aO))) (bR (ki (Tc (Zn K rfl) (j9 (dX:=[]) gQ (by simp) T.aS (hr.mono (by decide)) aR (pv 0) (az (pv 1) aO)) (TU aW) TR)))),?_⟩;show c9 _ _ _ [some (.ref D.p),some (.str x)] H;obtain⟨dx,fs,hp,ft⟩:=O.ex;walk_at"s";refine kh hp (uN ft _) ⟨D,x,rfl,O,fun c1 c2=>hR _ _ ?_,kx⟩;cases hx:bA D.ns x with
  |none=>exact absurd hx c2
  |some n=>
  obtain⟨uQ,ne⟩:=Ad hx;obtain⟨ys,U,yl⟩:=W.up n uQ;rw[ne]at U;walk_at"rd";refine kh hp (uN ft _) ⟨D,x,ys,rfl,O,U,by omega,fun l H1 s1 hl e=>?_⟩;refine zyj (.of e) fun l2 xN=>?_;have yp:=U.pos;have ec:wG (ys.reverse.map V.str) (some 1) none=(ys.reverse.map V.str).drop 1:=ZU _ 1 (by rw[aj,oF];omega);rw[ec];refine k c1 ys U l2 _ (s1.trans (dZ xN)) ?_ ?_
  ·cases z:H l2 with
   |none=>rfl
   |some o=>rw[s1 _ _ z]at xN;cases xN
  ·rw[bh,List.drop_one,List.map_tail]
inductive KA(cL cP:Addr)(C:Cl)(vs:List V)(H:Hp)(Q:VK)(E:XK):Prop|mk (x dx:Addr) (m:Int) (kd:Str) (h1:vs=[.ref x,.int m,.str kd]) (h2:H x=some (.ins C.t dx [])) (h3:(¬(1<=m/\m<=1000000)->Rs cL H E)) (h4:(1<=m/\m<=1000000->¬jI kd->Rs cP H E)) (h5:(1<=m/\m<=1000000->jI kd->∀(pn pg:Addr)(n:ND)(a:k9) H',n=⟨eI,n.p,n.ql,none,some (a,gJ.new (uG kd)),.non,none,[],[]⟩->qR x H H'->(∀b∈TD.foot ⟨x,pn,pg,m,0,0,0,[n],[],[]⟩,b=x\/H b=none)->d9 C H' ⟨x,pn,pg,m,0,0,0,[n],[],[]⟩->Q .non H')):KA cL cP C vs H Q E
include T in
theorem zzd:Dj P w K mg base (eK P w) 7 dH ["self","most","kind"] [[],[V.str (Str.ofString "starts")]] (KA cK cV (⟨cZ,dD,dB,cH,cD,dH⟩:Cl)):=by
 have uY:=XT P w base T;have jV:=RX P w base T;have xY:=UL P w base T;refine T.En.jS (k:=6) XN (fun vs H Q E h=>?_) (fun f bL A outer s H vs Q E hr h=>?_)
 ·obtain⟨x,dx,m,kd,rfl,_⟩:=h;rfl
 ·obtain⟨x,dx,m,kd,rfl,hx,kl,kp,k⟩:=h;obtain⟨jw,jr,jx⟩:=T.kT;refine⟨_,(bJ (gf (gE uY (hr.mono (by decide)) rfl aR (az (pv 1) aO))) (bJ (bC (iw (SR K rfl) (pv 2) (uU (v:=.ref jw) rfl jr rfl) rfl) (bR (mw K rfl rfl mC (oK T.iQ T.iS rfl T.gR (az gg aO)))) gX) (bJ (mz (pv 0) (pv 1) rfl) (bJ (mz (pv 0) (zxb (ZA (Iz rfl T.zD) (DI (dX:=[V.non]) xY (by simp) (hr.mono (by decide)) aR rfl T.zC (az xE (az (gE jV (hr.mono (by decide)) rfl aR (az (pv 2) (az (pv 1) aO))) aO))) zxa) rfl rfl (by intro z;cases z) (by decide)) rfl) (bJ (mz (pv 0) aW rfl) (bJ (mz (pv 0) aW rfl) (bJ (mz (pv 0) aW rfl) (bR (mz (pv 0) (qQ aO) rfl))))))))),?_⟩;show c9 _ _ _ [some (.ref x),some (.int m),some (.str kd)] H;walk_at"s";refine⟨m,rfl,fun c1=>hR _ _ ?_,kl⟩;clear hR;walk_at"s";refine⟨_,_,rfl,.inr (jx H),rfl,rfl,_,rfl,?_⟩;rw[Tw,if_pos rfl];by_cases c2:jI kd
  case neg=>
   rw[if_pos (by simp[c2])];exact eW (kp c1 c2) T.gW
  rw[if_neg (by simp[c2])];refine hR _ _ ?_;clear hR;have k:=k c1 c2;have l1:=gP (fs:=[]) (f:="most") (v:=.int m);simp only[aU]at l1;walk_at"s";refine mD hx T.aS T.iH (by simp) (hR _ _ ?_);clear hR;have h1:aB H x (.ins dH dx (ak "most" (.int m) [])) x=some (.ins dH dx (ak "most" (.int m) [])):=bh;have b1:qR x H (aB H x (.ins dH dx (ak "most" (.int m) []))):=IB;have n1:∀{b},aB H x (.ins dH dx (ak "most" (.int m) [])) b=none->H b=none:=fun{b} e=>by
   by_cases z:b=x
   ·rw[z,bh]at e;cases e
   ·rw[bw z]at e;exact e
  show c9 _ _ _ _ (aB H x (.ins dH dx (ak "most" (.int m) [])));generalize aB H x (.ins dH dx (ak "most" (.int m) []))=H1 at h1 b1 n1⊢;walk_at"s";unfold FQ;intro pn LA;unfold Lf Lf;walk_at"rd";have s2:=dZ (o:=.dK []) LA;have h2:aB H1 pn (.dK []) pn=some (.dK []):=bh;generalize aB H1 pn (.dK [])=H2 at s2 h2⊢;refine⟨kd,m,rfl,c1.1,fun _ a H3 s3 na C3 y dy hy Dz _=>?_,fun z=>absurd c2 z⟩;refine⟨y,dy,.non,.ref a.p,.non,rfl,bh,fun ql fs H4 bt hq h4 f4 q4=>⟨rfl,?_⟩⟩;obtain⟨s4,N4,Vh,q3⟩:=lP.new (C:=(⟨cZ,dD,dB,cH,cD,dH⟩:Cl)) (m:=m) (nm:=eI) (ab:=none) (ch:=some (a,gJ.new (uG kd))) (rm:=.non) hy Dz bt hq h4 f4 q4 fun c e=>by cases e;exact C3
  refine⟨s4 _ _ (s3 _ _ h2),[((aH eI:Key),V.ref y)],rfl,by simp,?_⟩;have Jg:∀b∈ND.foot ⟨eI,y,ql,none,some (a,gJ.new (uG kd)),.non,none,[],[]⟩,H2 b=none:=fun b hb=>by
   have Qx:∀{b},H3 b=none->H2 b=none:=fun{b} e=>by
    cases z:H2 b with
    |none=>rfl
    |some o=>rw[s3 _ _ z]at e;cases e
   unfold ND.foot at hb;rcases ah.mp hb with z|hb
   ·rw[z];exact Qx hy
   rcases ah.mp hb with z|hb
   ·rw[z];exact Qx q3
   rcases aA.mp hb with z|z
   ·exact na b z
   ·cases z
  have LL:aQ H1 H4:=s2.trans (s3.trans s4);have V3:∀{b},H2 b=none->H1 b=none:=fun{b} e=>by
   cases z:H1 b with
   |none=>rfl
   |some o=>rw[s2 _ _ z]at e;cases e
  have Op:x≠pn:=gq h1 LA;have h5:aB H4 pn (.dK (DL [] [((aH eI:Key),V.ref y)])) pn=some (.dK (uP [⟨eI,y,ql,none,some (a,gJ.new (uG kd)),.non,none,[],[]⟩])):=bh;have x5:aB H4 pn (.dK (DL [] [((aH eI:Key),V.ref y)])) x=some (.ins dH dx (ak "most" (.int m) [])):=by rw[bw Op];exact LL _ _ h1
  have k5:∀b o,b≠pn->H4 b=some o->aB H4 pn (.dK (DL [] [((aH eI:Key),V.ref y)])) b=some o:=fun b o q e=>by rw[bw q];exact e
  have o5:∀b,aB H4 pn (.dK (DL [] [((aH eI:Key),V.ref y)])) b=none->H4 b=none:=fun b e=>by
   by_cases z:b=pn
   ·rw[z,bh]at e;cases e
   ·rw[bw z]at e;exact e
  have QD:=s4 _ _ (s3 _ _ h2);generalize aB H4 pn (.dK (DL [] [((aH eI:Key),V.ref y)]))=H5 at h5 x5 k5 o5⊢;have l2:=gP (fs:=ak "most" (.int m) []) (f:="nodes") (v:=.ref pn);have l3:=gP (fs:=ak "nodes" (.ref pn) (ak "most" (.int m) [])) (f:="time") (v:=.int 0);have l4:=gP (fs:=ak "time" (.int 0) (ak "nodes" (.ref pn) (ak "most" (.int m) []))) (f:="free") (v:=.int 0);have l5:=gP (fs:=ak "free" (.int 0) (ak "time" (.int 0) (ak "nodes" (.ref pn) (ak "most" (.int m) [])))) (f:="counted") (v:=.int 0);refine mD x5 T.aS T.bN (by omega) (hR _ _ ?_);clear hR;walk_at"s";refine mD bh T.aS T.gA (by omega) (hR _ _ ?_);clear hR;rw[wj];walk_at"s";refine mD bh T.aS T.nU (by omega) (hR _ _ ?_);clear hR;rw[wj];walk_at"s";refine mD bh T.aS T.qG (by omega) (hR _ _ ?_);clear hR;rw[wj];walk_at"rd";intro pg oY;have xg:pg≠x:=fun z=>by rw[z,bh]at oY;cases oY
  have g5:H5 pg=none:=by rw[bw xg]at oY;exact oY
  have g4:=o5 _ g5;have ng:pn≠pg:=gq QD g4;refine mD (by rw[bw (bV xg),bh]) T.aS T.vB (by omega) ?_;have kp:∀{b o},b≠x->b≠pg->H5 b=some o->aB (aB (aB H5 x (.ins dH dx (ak "counted" (.int 0) (ak "free" (.int 0) (ak "time" (.int 0) (ak "nodes" (.ref pn) (ak "most" (.int m) []))))))) pg (.lst [])) x (.ins dH dx (ak "gone" (.ref pg) (ak "counted" (.int 0) (ak "free" (.int 0) (ak "time" (.int 0) (ak "nodes" (.ref pn) (ak "most" (.int m) []))))))) b=some o:=fun{b o} q1 q2 e=>by rw[bw q1,bw q2,bw q1];exact e
  have hg:aB (aB (aB H5 x (.ins dH dx (ak "counted" (.int 0) (ak "free" (.int 0) (ak "time" (.int 0) (ak "nodes" (.ref pn) (ak "most" (.int m) []))))))) pg (.lst [])) x (.ins dH dx (ak "gone" (.ref pg) (ak "counted" (.int 0) (ak "free" (.int 0) (ak "time" (.int 0) (ak "nodes" (.ref pn) (ak "most" (.int m) []))))))) pg=some (.lst []):=by rw[bw xg,bh]
  have hf:aB (aB (aB H5 x (.ins dH dx (ak "counted" (.int 0) (ak "free" (.int 0) (ak "time" (.int 0) (ak "nodes" (.ref pn) (ak "most" (.int m) []))))))) pg (.lst [])) x (.ins dH dx (ak "gone" (.ref pg) (ak "counted" (.int 0) (ak "free" (.int 0) (ak "time" (.int 0) (ak "nodes" (.ref pn) (ak "most" (.int m) []))))))) x=some (.ins dH dx (ak "gone" (.ref pg) (ak "counted" (.int 0) (ak "free" (.int 0) (ak "time" (.int 0) (ak "nodes" (.ref pn) (ak "most" (.int m) []))))))):=bh;generalize aB (aB (aB H5 x (.ins dH dx (ak "counted" (.int 0) (ak "free" (.int 0) (ak "time" (.int 0) (ak "nodes" (.ref pn) (ak "most" (.int m) []))))))) pg (.lst [])) x (.ins dH dx (ak "gone" (.ref pg) (ak "counted" (.int 0) (ak "free" (.int 0) (ak "time" (.int 0) (ak "nodes" (.ref pn) (ak "most" (.int m) [])))))))=Hf at kp hg hf⊢;have bx:∀{b},H2 b=none->b≠x:=fun{b} e z=>by rw[z,s2 _ _ h1]at e;cases e
  have bn:∀{b},H2 b=none->b≠pn:=fun{b} e z=>by rw[z,h2]at e;cases e
  have k4:∀{b o},b≠x->b≠pn->H4 b=some o->Hf b=some o:=fun{b o} q1 q2 e=>kp q1 (gq e g4) (k5 b o q2 e);refine k pn pg ⟨eI,y,ql,none,some (a,gJ.new (uG kd)),.non,none,[],[]⟩ a Hf rfl (fun b o nb e=>?_) (fun b hb=>?_) ⟨⟨dx,_,hf,DQ.Eu ..⟩,kp Op.symm ng h5,fun z hz=>?_,hg,.nil,?_⟩
  ·have e1:=b1 b o nb e;exact k4 nb (gq e1 LA) (LL _ _ e1)
  ·unfold TD.foot at hb;rcases ah.mp hb with z|hb
   ·exact .inl z
   rcases ah.mp hb with z|hb
   ·rw[z];exact .inr (n1 LA)
   rcases ah.mp hb with z|hb
   ·rw[z];refine .inr (n1 ?_);cases z:H1 pg with
    |none=>rfl
    |some o=>rw[LL _ _ z]at g4;cases g4
   obtain⟨w,hw,z⟩:=b5.mp hb;rw[aD.mp hw]at z;exact .inr (n1 (V3 (Jg b z)))
  ·rw[aD.mp hz];refine N4.keep fun b o hb e=>?_;rcases hb with q|⟨xs,q⟩
   ·exact k4 (bx (Jg b q)) (bn (Jg b q)) e
   ·exact k4 (fun w=>by rw[w,LL _ _ h1]at q;cases q) (fun w=>by rw[w,QD]at q;cases q) e
  ·show(x::pn::pg::([⟨eI,y,ql,none,some (a,gJ.new (uG kd)),.non,none,[],[]⟩]:List ND).flatMap ND.foot).Nodup;rw[gZ,EW,aN];simp only[aL,ah,not_or];refine⟨⟨Op,bV xg,fun z=>bx (Jg _ z) rfl⟩,⟨ng,fun z=>bn (Jg _ z) rfl⟩,fun z=>?_,Vh⟩;obtain⟨o,ho,_⟩:=N4.at z;rw[g4]at ho;cases ho
def N3(cC cP:Addr)(C:Cl):Sp:=fun vs H Q E=>∃(D:TD)(x:Str),vs=[.ref D.p,.str x]/\d9 C H D/\(x=eI\/bA D.ns x=none->Rs cC H E)/\(x≠eI->∀n,bA D.ns x=some n->n.ch≠none->Rs cP H E)/\(x≠eI->∀n,bA D.ns x=some n->n.ch=none->Q .non H)
include T in
theorem Q3:eg P w K mg base (eK P w) 2 dH "check_leaf" ["self","name"] [[]] (N3 cI cV (⟨cZ,dD,dB,cH,cD,dH⟩:Cl)):=by
 have c8:=LZ P w base T;refine T.mT.jS (k:=1) Ww (fun vs H Q E h=>?_) (fun f bL A outer s H vs Q E hr h=>?_)
 ·obtain⟨D,x,rfl,_⟩:=h;rfl
 ·obtain⟨D,x,rfl,O,kc,kp,k⟩:=h;refine⟨_,(bJ (gf (j9 (dX:=[]) c8 (by simp) T.aS (hr.mono (by decide)) aR (pv 0) (az (pv 1) aO))) (bR (bC (iw IA (je (HD (gO hr) (je (pv 0) rfl) (pv 1) (fun _ _=>rfl)) rfl) xE (iq _)) (bR (mw K rfl rfl mC (oK T.iQ T.iS rfl T.gR (az gg aO)))) gX))),?_⟩;show c9 _ _ _ [some (.ref D.p),some (.str x)] H;obtain⟨dx,fs,hp,ft⟩:=O.ex;walk_at"s";refine kh hp (uN ft _) ⟨D,x,rfl,O,fun c1 c2=>hR _ _ ?_,kc⟩;cases hx:bA D.ns x with
  |none=>exact absurd hx c2
  |some n=>
  obtain⟨dn,fn,xO,wK⟩:=(O.nd n (Ad hx).1).ex;walk_at"rd";refine jd hp T.aS T.bN ft.no ?_;walk_at"rd";refine⟨_,sI O hx,?_⟩;refine jd xO T.fJ T.fc wK.ch ?_;cases hc:n.ch with
  |none=>exact k c1 n hx hc
  |some c=>exact eW (kp c1 n hx (by rw[hc];simp)) T.gW
def Kz(cC:Addr)(C:Cl):Sp:=fun vs H Q E=>∃(D:TD)(x:Str),vs=[.ref D.p,.str x]/\d9 C H D/\(x=eI\/bA D.ns x=none->Rs cC H E)/\(x≠eI->∀n,bA D.ns x=some n->Q (.bl n.bk.isSome) H)
include T in
theorem Xz:eg P w K mg base (eK P w) 2 dH "curbed" ["self","name"] [[]] (Kz cI (⟨cZ,dD,dB,cH,cD,dH⟩:Cl)):=by
 have c8:=LZ P w base T;refine T.rZ.jS (k:=1) Xg (fun vs H Q E h=>?_) (fun f bL A outer s H vs Q E hr h=>?_)
 ·obtain⟨D,x,rfl,_⟩:=h;rfl
 ·obtain⟨D,x,rfl,O,kc,k⟩:=h;refine⟨_,(bJ (gf (j9 (dX:=[]) c8 (by simp) T.aS (hr.mono (by decide)) aR (pv 0) (az (pv 1) aO))) (bR (ki (K1 IA (je (HD (gO hr) (je (pv 0) rfl) (pv 1) (fun _ _=>rfl)) rfl) xE (iq _))))),?_⟩;show c9 _ _ _ [some (.ref D.p),some (.str x)] H;obtain⟨dx,fs,hp,ft⟩:=O.ex;walk_at"s";refine kh hp (uN ft _) ⟨D,x,rfl,O,fun c1 c2=>hR _ _ ?_,kc⟩;clear hR;cases hx:bA D.ns x with
  |none=>exact absurd hx c2
  |some n=>
  obtain⟨uQ,ne⟩:=Ad hx;obtain⟨dn,fn,xO,wK⟩:=(O.nd n uQ).ex;have k:=k c1 n hx;walk_at"rd";refine jd hp T.aS T.bN ft.no ?_;walk_at"rd";refine⟨_,sI O hx,?_⟩;refine jd xO T.fJ T.iU wK.bk ?_;cases hb:n.bk with
  |none=>rw[hb]at k;walk_at"rd";exact k
  |some b=>rw[hb]at k;walk_at"rd";exact k
inductive FI(cC cN:Addr)(C:Cl)(vs:List V)(H:Hp)(Q:VK)(E:XK):Prop|mk (D:TD) (x:Str) (d:Int) (pr:Addr) (r:Rat) (h1:vs=[.ref D.p,.str x,.int d,.ref pr]) (h2:d9 C H D) (h3:D.Wf) (h4:H pr=some (.tup (fq r))) (h5:Sw.fM 5000 r) (h6:(x=eI\/bA D.ns x=none->Rs cC H E)) (h7:(x≠eI->bA D.ns x≠none->¬(D.most<=d/\d<=1000000000000/\0<r)->Rs cN H E)) (h8:(x≠eI->D.most<=d/\d<=1000000000000/\0<r->∀n b H',bA D.ns x=some n->H b.1=none->d9 C H' (D.vd n (some b))->tO D.foot H H'->Q .non H')):FI cC cN C vs H Q E
theorem zF{r:Rat}:0<r↔0<r.num:=by rw[<-Sw.JX];show(0:Int)*_ < _* ((1:Nat):Int)↔_;omega
include T in
theorem X9:eg P w K mg base (eK P w) 5 dH "curb" ["self","name","depth","rate"] [[]] (FI cI cJ (⟨cZ,dD,dB,cH,cD,dH⟩:Cl)):=by
 have c8:=LZ P w base T;have jJ:=OT P w base T;refine T.vy.jS (k:=4) XO (fun vs H Q E h=>?_) (fun f bL A outer s H vs Q E hr h=>?_)
 ·obtain⟨D,x,d,pr,r,rfl,_⟩:=h;rfl
 ·obtain⟨D,x,d,pr,r,rfl,O,W,wd,sr,kc,kn,k⟩:=h;refine⟨_,(bJ (gf (j9 (dX:=[]) c8 (by simp) T.aS (hr.mono (by decide)) aR (pv 0) (az (pv 1) aO))) (bJ (bC (Be (Ir fG fG (je (pv 0) rfl) (pv 2) (Aa rfl T.nQ))) (bR (mw K rfl rfl mC (oK T.ly T.lC rfl T.jN (az gg aO)))) gX) (bJ (bC (iw fG (bE (jy K rfl) (pv 3) aW (fun _ _=>rfl)) aW (iq _)) (bR (mw K rfl rfl mC (oK T.ly T.lC rfl T.jN (az gg aO)))) gX) (bR (mz (HD (gO hr) (je (pv 0) rfl) (pv 1) (fun _ _=>rfl)) (DI (dX:=[]) jJ (by simp) (hr.mono (by decide)) aR rfl T.lF (az (pv 2) (az (pv 3) (az (je (pv 0) rfl) aO)))) rfl))))),?_⟩;show c9 _ _ _ [some (.ref D.p),some (.str x),some (.int d),some (.ref pr)] H;obtain⟨dx,fs,hp,ft⟩:=O.ex;walk_at"s";refine kh hp (uN ft _) ⟨D,x,rfl,O,fun c1 c2=>hR _ _ ?_,kc⟩;clear hR;have kn:=kn c1 c2;cases hx:bA D.ns x with
  |none=>exact absurd hx c2
  |some n=>
  obtain⟨uQ,ne⟩:=Ad hx;have N:=O.nd n uQ;obtain⟨dn,fn,xO,wK⟩:=N.ex;walk_at"s";refine jd hp T.aS T.iH ft.mo ?_;walk_at"rd";have post:D.most<=d->d<=1000000000000->R [some (.ref D.p),some (.str x),some (.int d),some (.ref pr)] H:=fun d1 d2=>hR _ _ (by
   clear hR;walk_at"s";refine j0 (.of wd) rfl ?_;walk_at"rd";refine cy (fun c3=>eW (kn fun z=>?_) T.iL) fun c3=>hR _ _ ?_
   ·have:=zF.mp z.2.2;omega
   clear hR;have r0:0<r:=zF.mpr (by omega);walk_at"rd";refine jd hp T.aS T.gA ft.ti ?_;intro y dy hy Dz nd;have pb:pr≠y:=gq wd hy;have pd:pr≠dy:=gq wd Dz;refine⟨y,dy,d,pr,r,D.tm,rfl,bh,by rw[bw pb,bw pd];exact wd,sr,fun _ H1 bt B=>⟨rfl,?_⟩,fun z=>absurd ⟨by have:=W.m1.1;omega,Rat.le_of_lt r0⟩ z⟩;have s1:aQ H H1:=fun b o e=>bt _ _ (gq e hy) (by rw[bw (gq e hy),bw (gq e Dz)];exact e);have O1:=O.same s1;obtain⟨dx,fs,hp,ft⟩:=O1.ex;obtain⟨dn,fn,xO,wK⟩:=(O1.nd n uQ).ex;refine jd hp T.aS T.bN ft.no ?_;refine⟨_,rfl,_,sI O1 hx,?_⟩;refine mD xO T.fJ T.iU (by have:=wK.len;omega) ?_;refine k c1 ⟨d1,d2,r0⟩ n (y,⟨d,r,D.tm,(d:Rat)⟩) _ hx hy (O.vd W.nn uQ s1 xO wK (some (y,⟨d,r,D.tm,(d:Rat)⟩)) fun b z=>by cases z;exact⟨B,hy⟩) fun b o nb e=>?_;have:b≠n.p:=fun z=>nb (TD.ig uQ (z▸aq ..));rw[bw this];exact s1 _ _ e)
  clear hR;refine cy (fun c3=>cy (fun c4=>post c3 c4) fun c4=>eW (kn fun z=>c4 z.2.1) T.iL) fun c3=>eW (kn fun z=>c3 z.1) T.iL
def BI(D:TD):Prop:=∀n∈D.ns,n.ps=[]
def N8(C:Cl):Sp:=fun vs H Q _=>∃(D:TD),vs=[.ref D.p]/\d9 C H D/\BI D/\D.ns.length<=900/\∀l H',aQ H H'->H l=none->H' l=some (.lst [])->Q (.ref l) H'
include T in
theorem Wy:eg P w K mg base (eK P w) 1 dH "full_leaves" ["self"] [[]] (N8 (⟨cZ,dD,dB,cH,cD,dH⟩:Cl)):=by
 refine T.lW.okN (k:=0) Wq (fun vs H Q E h=>?_) (fun f bL A outer s H vs Q E hr h=>?_)
 ·obtain⟨D,rfl,_⟩:=h;rfl
 ·obtain⟨D,rfl,O,I,nl,k⟩:=h;refine⟨_,(bR (ki (zxc (sN ["name","node"] [] rfl (by with_unfolding_all rfl) (by decide+kernel) rfl (by decide+kernel) (by exact bB) (by with_unfolding_all rfl) bB (ZE (je (pv 0) rfl)) (fun _ _ _=>(OZ (n:=2) K rfl rfl (Iq (Ac (i:=0) (show(["name","node"]:List Str).Nodup from by decide+kernel) rfl (by first|left;rfl|right;rfl)) (Iq (Ac (i:=1) (show(["name","node"]:List Str).Nodup from by decide+kernel) rfl (by first|left;rfl|right;rfl)) OV)))) (fun _ _ _=>(Tf (SQ K rfl (zxi K rfl (pv 1) rfl)))) (fun _ _ _=>(pv 0)))))),?_⟩;show qL _ _ [some (.ref D.p)] H;obtain⟨dx,fs,hp,ft⟩:=O.ex;walk_at"rd";unfold FU;walk_at"rd";unfold UD;walk_at"rd";refine jd hp T.aS T.bN ft.no ?_;refine⟨_,rfl,_,O.hn,fun o L hL=>?_⟩;have nL:L≠D.pn:=fun z=>by rw[z,bh]at hL;cases hL
  have Vr:H L=none:=by rw[bw nL]at hL;exact hL
  have lk:(uP D.ns).length=D.ns.length:=T9 _;refine Yv (fun i τ H'=>(∃v0 v1,τ=[v0,v1])/\aQ (aB H D.pn (.frz o (.dK (uP D.ns)))) H'/\H' L=some (.lst [])) ⟨⟨none,none,rfl⟩,dZ hL,bh⟩ (fun i τ H' _⟨_,sm,_⟩=>sm _ _ bh) ?_ ?_
  ·rintro i kv τ H6 p Cf ⟨⟨v0,v1,rfl⟩,sm,Ia⟩ VJ;obtain⟨n,hw,rfl⟩:∃n,D.ns[i]?=some n/\((aH n.nm:Key),V.ref n.p)=kv:=by
    unfold uP at Cf;rw[dO]at Cf;cases e:D.ns[i]? with
    |none=>rw[e]at Cf;cases Cf
    |some p=>rw[e]at Cf;exact⟨p,rfl,aK Cf⟩
   have uQ:=fL hw;have N:=O.nd n uQ;obtain⟨dn,fn,xO,wK⟩:=N.ex;have sn:=dZ (o:=.tup [kV (aH n.nm:Key),V.ref n.p]) VJ;have sm:=sm.trans sn;have Ia:=sn _ _ Ia;refine⟨p,_,rfl,.of bh,rfl,?_⟩;generalize aB H6 p (.tup [kV (aH n.nm:Key),V.ref n.p])=H7 at sm Ia⊢;have a1:=(O.apart uQ (b:=n.p) (aq ..)).2.1;have a2:=(O.apart uQ (b:=n.ql) (af _ (aq ..))).2.1;have h7:=sm _ _ (show aB H D.pn (.frz o (.dK (uP D.ns))) n.p=_ by rw[bw a1];exact xO);have q7:=sm _ _ (show aB H D.pn (.frz o (.dK (uP D.ns))) n.ql=_ by rw[bw a2];exact N.qu.hl);rw[I n uQ]at q7;walk_at"rd";refine jd h7 T.fJ T.l9 wK.qu ⟨_,Om (.of q7),?_⟩;exact⟨sm,Ia⟩
  ·rintro τ H6 ⟨_,sm,Ia⟩;refine⟨D.pn,⟨_,O.hn⟩,o,_,sm _ _ bh,?_⟩;refine k L _ (fun b u' e=>?_) Vr (by rw[bw nL];exact Ia);by_cases z:b=D.pn
   ·subst z;rw[O.hn]at e;cases e
    exact bh
   ·rw[bw z];exact sm _ _ (by rw[bw z];exact e)
def Od(C:Cl):Sp:=fun vs H Q _=>∃(D:TD),vs=[.ref D.p]/\d9 C H D/\BI D/\D.ns.length<=900/\∀H',aQ H H'->Q .non H'
include T in
theorem Wz:eg P w K mg base (eK P w) 2 dH "next_choice" ["self"] [[]] (Od (⟨cZ,dD,dB,cH,cD,dH⟩:Cl)):=by
 have mJ:=Wy P w base T;refine T.lX.okN (k:=1) iC (fun vs H Q E h=>?_) (fun f bL A outer s H vs Q E hr h=>?_)
 ·obtain⟨D,rfl,_⟩:=h;rfl
 ·obtain⟨D,rfl,O,I,nl,k⟩:=h;refine⟨_,(bJ (jR (i:=1) iC.nd rfl (oJ (YL rfl) rfl T.GY boot_max (az (je (pv 0) rfl) (az (je (pv 0) rfl) aO)))) (bR (ki (zxj K rfl rfl rfl T.GZ (az (sN ["name"] [("at",1),("self",0)] rfl (by with_unfolding_all rfl) (by decide+kernel) rfl (by decide+kernel) (by exact⟨rfl,⟨rfl,bB⟩⟩) (by with_unfolding_all rfl) ⟨⟨rfl,rfl,rfl⟩,⟨⟨rfl,rfl,rfl⟩,bB⟩⟩ (Iu K rfl (OE (dX:=[]) mJ (by simp) T.aS (hr.mono (by decide)) eo (pv 0))) (fun _ _ _=>(Ac (i:=0) (show(["name","at","self"]:List Str).Nodup from by decide+kernel) rfl (by first|left;rfl|right;rfl))) (fun _ _ _=>KZ) (fun _ _ _=>ZN)) aO) xE)))),?_⟩;show c9 _ _ _ [some (.ref D.p),none] H;obtain⟨dx,fs,hp,ft⟩:=O.ex;walk_at"s";refine jd hp T.aS T.gA ft.ti (jd hp T.aS T.nU ft.fr ⟨_,rfl,_,rfl,hR _ _ ?_⟩);clear hR;walk_at"rd";unfold FT;walk_at"rd";refine kh hp (uN ft _) ⟨D,rfl,O,I,nl,fun l H1 s1 hl h1=>⟨l,rfl,⟨_,.of h1⟩,fun L hL=>?_⟩⟩;have nL:l≠L:=gq h1 hL;refine L6 (K:=K) (a:=l) (xs:=[]) (fun i τ H'=>H'=aB H1 L (.lst [])) rfl (fun i τ H' _ h=>.of (by rw[h,bw nL];exact h1)) ?_ ?_
  ·rintro i x τ H' hx _;cases hx
  ·rintro τ H' rfl;exact⟨L,rfl,[],.of bh,fun _=>k _ (s1.trans (dZ hL)),fun m hm=>by cases hm⟩
def Og(cE:Addr)(C:Cl):Sp:=fun vs H Q E=>∃(D:TD)(t:Int),vs=[.ref D.p,.int t]/\d9 C H D/\BI D/\D.ns.length<=900/\(t<D.tm->Rs cE H E)/\(D.tm<=t->∀H',d9 C H' {D with tm:=t}->tO D.foot H H'->Q .non H')
include T in
theorem XU:eg P w K mg base (eK P w) 3 dH "until" ["self","at"] [[]] (Og dF (⟨cZ,dD,dB,cH,cD,dH⟩:Cl)):=by
 have iM:=Wz P w base T;refine T.t8.jS (k:=2) jv (fun vs H Q E h=>?_) (fun f bL A outer s H vs Q E hr h=>?_)
 ·obtain⟨D,t,rfl,_⟩:=h;rfl
 ·obtain⟨D,t,rfl,O,I,nl,kx,k⟩:=h;refine⟨_,(bJ (bC (iw nW (pv 1) (je (pv 0) rfl) (iq _)) (bR (mw K rfl rfl mC (oK T.wI T.wR rfl T.pR (az gg aO)))) gX) (bJ (jR (i:=2) jv.nd rfl (OE (dX:=[]) iM (by simp) T.aS (hr.mono (by decide)) aR (pv 0))) (bJ (Ma PassesOwn.leaving (PW.pt (La (iw IA (pv 2) xE (iq _)) (Mh (iw nW (pv 2) (pv 1) (iq _))))) (bJ vV (bR (jR (i:=2) jv.nd rfl (OE (dX:=[]) iM (by simp) T.aS (hr.mono (by decide)) aR (pv 0)))))) (bR (mz (pv 0) (pv 1) rfl))))),?_⟩;show c9 _ _ _ [some (.ref D.p),some (.int t),none] H;obtain⟨dx,fs,hp,ft⟩:=O.ex;walk_at"s";refine jd hp T.aS T.gA ft.ti ⟨_,rfl,cy (fun c=>eW (kx c) T.pU) fun c=>hR _ _ ?_⟩;have k:=k (by omega);clear hR;walk_at"s";refine kh hp (uN ft _) ⟨D,rfl,O,I,nl,fun H1 s1=>hR _ _ ?_⟩;clear hR;have O1:=O.same s1;obtain⟨dx,fs,hp,ft⟩:=O1.ex;refine bU fun R hR=>?_;refine T4 (fun m σ H'=>σ=[some (.ref D.p),some (.int t),some V.non]/\H'=H1) (m0:=0) ⟨rfl,rfl⟩ ?_;rintro m σ H' ⟨rfl,rfl⟩;walk_at"rd";refine⟨false,fun _ q=>q,⟨fun z=>Bool.noConfusion z,fun _=>hR _ _ ?_⟩⟩;walk_at"rd";refine mD hp T.aS T.gA (by have:=ft.len;omega) ?_;have O2:=O1.field hp (ft.G7 (Ol:=t));refine k _ O2 fun b o nb e=>?_;have b1:b≠D.p:=fun z=>nb (z▸aq ..);rw[bw b1];exact s1 _ _ e
def nC(C:Cl)(D:TD)(x u kd:Str)(s:Int)(rm:V)(H H':Hp)(D':TD):Prop:=∃(un:ND)(c:k9×gJ)(n:ND),D'=D.put un c s n/\bA D.ns u=some un/\un.ch=some c/\n.nm=x/\n.ab=some u/\n.rm=rm/\n.bk=none/\n.ps=[]/\n.qu=[]/\(kd=Str.ofString "leaf"->n.ch=none)/\(jI kd->∃a,n.ch=some (a,gJ.new (uG kd)))/\(∀b∈n.foot,H b=none)/\d9 C H' D'/\tO D.foot H H'
theorem zxr{D:TD}{x u kd:Str}{s:Int}{rm:V}(h:jL D x u kd s rm=none):wk x/\bA D.ns x=none/\(∃n,bA D.ns u=some n/\nK kd/\n.ch≠none/\∀ys,Up D.ns u ys->ys.length<=5)/\(1<=s/\s<=1000000):=by
 by_cases c1:wk x
 case neg=>rw[Mg c1]at h;cases h
 cases hx:bA D.ns x with
 |some v=>rw[SY c1 (by rw[hx];simp)]at h;cases h
 |none=>
 cases hu:bA D.ns u with
 |none=>rw[Ua c1 hx hu]at h;cases h
 |some n=>
 by_cases c2:nK kd/\n.ch≠none/\∀ys,Up D.ns u ys->ys.length<=5
 case neg=>rw[OH c1 hx hu c2]at h;cases h
 by_cases c3:1<=s/\s<=1000000
 case neg=>rw[S0 c1 hx hu c2 c3]at h;cases h
 exact⟨c1,rfl,⟨n,rfl,c2⟩,c3⟩
theorem ZV{x:Str}(h:wk x):PyData.strOk x=true/\x.length<=8:=by
 refine⟨?_,h.1.2⟩;rw[zza];intro c hc;have:∀c∈lets.cps.toList,c<1114112:=by decide+kernel
 exact this c (h.2 c hc)
theorem nC.wf{C:Cl}{D D':TD}{x u kd:Str}{s:Int}{rm:V}{H H':Hp}(h:nC C D x u kd s rm H H' D')(W:D.Wf)(d:jL D x u kd s rm=none):D'.Wf:=by
 obtain⟨un,c,n,rfl,hu,hc,h1,h2,h3,h4,h5,h6,h7,h8,h9,Gw,Jk⟩:=h;obtain⟨V4,hx,⟨n',Qg,ok,_,dp⟩,sh⟩:=zxr d;rw[hu]at Qg;cases Qg
 obtain⟨xT,Io⟩:=Ad hu;have nx:dw c.2.nm x=none:=by rw[Sw.ji,W.GU un xT c hc];intro z;unfold ju at z;obtain⟨y,hy,e⟩:=aZ.mp z;exact iR.mp hx (aZ.mpr ⟨y,(lM.mp hy).1,e⟩)
 have so:=ZV V4;subst h1;refine W.put xT hc rfl ((W.Gr un xT c hc).put nx sh.1 sh.2 so.1) hx (by rw[h2,Io]) (fun ys U=>dp ys (by rw[<-Io];exact U)) (fun d hd=>?_) so;rcases ok with z|z
 ·rw[h7 z]at hd;cases hd
 ·obtain⟨a,e⟩:=h8 z;rw[e]at hd;cases hd
  exact⟨gJ.Cw _,gJ.Ok.new W.m1.1 _⟩
theorem OU{ns:List ND}{n y:ND}(h:y∈dY ns n):y=n\/(y∈ns/\y.nm≠n.nm):=by
 unfold dY at h;obtain⟨z,hz,q⟩:=aZ.mp h;split at q
 ·exact .inl q.symm
 ·rename_i k
  exact .inr ⟨q▸hz,q▸k⟩
theorem nC.foot{C:Cl}{D D':TD}{x u kd:Str}{s:Int}{rm:V}{H H':Hp}(h:nC C D x u kd s rm H H' D'):∀b∈D'.foot,b∈D.foot\/H b=none:=by
 obtain⟨un,c,n,rfl,hu,hc,h1,h2,h3,h4,h5,h6,h7,h8,h9,Gw,Jk⟩:=h;intro b hb;obtain⟨xT,Io⟩:=Ad hu;unfold TD.foot at hb;rcases ah.mp hb with z|hb
 ·exact .inl (z▸aq ..)
 rcases ah.mp hb with z|hb
 ·exact .inl (z▸af _ (aq ..))
 rcases ah.mp hb with z|hb
 ·exact .inl (z▸af _ (af _ (aq ..)))
 obtain⟨y,hy,z⟩:=b5.mp hb;rcases aA.mp hy with hy|hy
 ·rcases OU hy with q|q
  ·left;refine TD.ig xT ?_;rw[q]at z;unfold ND.foot at z⊢;rw[hc];exact z
  ·exact .inl (TD.ig q.1 z)
 ·rw[aD.mp hy]at z;exact .inr (h9 b z)
theorem nC.len{C:Cl}{D D':TD}{x u kd:Str}{s:Int}{rm:V}{H H':Hp}(h:nC C D x u kd s rm H H' D'):D'.ns.length=D.ns.length+1:=by obtain⟨un,c,n,rfl,_⟩:=h;show(dY D.ns _++[n]).length=_;rw[bY];unfold dY;rw[aj];rfl
theorem zze(c:gJ)(x:Str)(s:Int):(c.put x s).sz<=c.sz+3:=by
 cases c with
 |st=>exact ao _
 |rd nm q rs tu ch=>
  show(nm++[(x,s)]).length<=nm.length+3;rw[bY];simp
theorem nC.full{C:Cl}{D D':TD}{x u kd:Str}{s:Int}{rm:V}{H H':Hp}(h:nC C D x u kd s rm H H' D')(ok:nK kd)(F:D.full)(l:D.ns.length<60):D'.full:=by
 have ln:=h.len;obtain⟨un,c,n,rfl,hu,hc,h1,h2,h3,h4,h5,h6,h7,h8,h9,Gw,Jk⟩:=h;obtain⟨xT,Io⟩:=Ad hu;refine⟨by omega,fun y hy d hd=>?_⟩;rw[ln];rcases aA.mp hy with hy|hy
 ·rcases OU hy with q|q
  ·rw[q]at hd;cases hd
   have:=zze c.2 n.nm s;have:=F.2 un xT c hc;show(c.2.put n.nm s).sz<=_;omega
  ·have:=F.2 y q.1 d hd;omega
 ·rw[aD.mp hy]at hd;rcases ok with z|z
  ·rw[h7 z]at hd;cases hd
  ·obtain⟨a,e⟩:=h8 z;rw[e]at hd;cases hd
   have:(gJ.new (uG kd)).sz=0:=by cases uG kd <;> rfl
   show(gJ.new (uG kd)).sz<=_;rw[this];omega
theorem ZW(z:Str):((z.cps.toList.map fun c=>decide (c∈Sw.tT.cps.toList)).all id)=decide (Sw.tP z):=by
 rw[eO,iy,decide_eq_true_eq];refine⟨fun h c hc=>?_,fun h b hb=>?_⟩
 ·have:=h _ (aZ.mpr ⟨c,hc,rfl⟩)
  simpa using this
 ·obtain⟨c,hc,rfl⟩:=aZ.mp hb;exact decide_eq_true (h c hc)
theorem sY{α:Type}{l:List α}{i:Nat}{a:α}(h:l[i]?=some a):l.take (i+1)=l.take i++[a]:=by obtain⟨hi,e⟩:=aE.mp h;rw[qT hi,e]
def Kv(cT:Addr):Sp:=fun vs H Q E=>∃(z:Str)(m:Int),vs=[.str z,.int m]/\0<=m/\m<=600/\z.length<=10000/\(∀n,Sw.eX m.toNat z=some n->∀H',aQ H H'->Q (.int n) H')/\(Sw.eX m.toNat z=none->∀H',aQ H H'->Rs cT H' E)
include T in
theorem Rr:ko P w K mg base (eK P w) 1 "read_figures" ["word","most"] (Kv cY):=by
 refine T.pA.jS (k:=0) WN (fun vs H Q E h=>?_) (fun f bL A outer s H vs Q E hr h=>?_)
 ·obtain⟨z,m,rfl,_⟩:=h;rfl
 ·obtain⟨z,m,rfl,m0,m1,zl,k,kx⟩:=h;refine⟨_,(bJ (bC (PW.pt (pw_or (Be (Ir fG fG aW (oJ RK rfl T.sJ boot_len (az (pv 0) aO)) (pv 1))) (Mt (Be (Bd (oJ (SG K rfl rfl) rfl T.Cy boot_all (az (sN ["sign"] [] rfl (by with_unfolding_all rfl) (by decide+kernel) rfl (by decide+kernel) (by exact bB) (by with_unfolding_all rfl) bB (UE (pv 0)) (fun _ _ _=>(Ac (i:=0) (show(["sign"]:List Str).Nodup from by decide+kernel) rfl (by first|left;rfl|right;rfl))) (fun _ _ _=>KZ) (fun _ _ _=>(K1 UF (pv 0) (Iz rfl T.yH) rfl))) aO))))))) (bR (mw K rfl rfl mC (oK T.lA T.lE rfl T.jO (az gg aO)))) gX) (bJ (bC (PW.pt (La (iw fh (bE zyd (pv 0) aW (fun _ _=>rfl)) gg (iq _)) (Mh (iw w6 (pv 0) gg (iq _))))) (bR (mw K rfl rfl mC (oK T.lA T.lE rfl T.jO (az gg aO)))) gX) (bR (ki (OC YY rfl T.GX boot_int (az (pv 0) aO)))))),?_⟩;show c9 _ _ _ [some (.str z),some (.int m)] H;walk_at"s";refine⟨Bc (by omega),?_⟩;have no:∀{H'},aQ H H'->¬(1<=z.length/\z.length<=m.toNat/\Sw.tP z/\¬Sw.kH z)->∀e,H' e=none->∃x x1,aB H' e (b7 e cY none true) e=some (b7 e x x1 true)/\XC K x/\E (.ref e) x1 (aB (aB H' e (b7 e cY none true)) e (b7 e x x1 false)):=fun s n=>eW (kx (Sw.Df n) _ s) T.lH;refine cy (fun l1=>cy (fun l2=>?_) fun c=>no (aQ.refl _) fun y=>c (by omega)) fun c=>no (aQ.refl _) fun y=>c (by omega);simp only[GP];walk_at"rd";intro D hD;show uq _ _ _ _ D [none] _ _;refine Tq (fun i τ H'=>(∃v,τ=[v])/\aQ H H'/\H' D=some (.lst (((z.cps.toList.take i).map fun c=>decide (c∈Sw.tT.cps.toList)).map V.bl))) ⟨⟨none,rfl⟩,dZ hD,bh⟩ ?_ ?_
  ·rintro i c τ H' hc ⟨⟨v,rfl⟩,s',v9⟩;walk_at"rd";simp only[De,if_true];walk_at"rd";have hi:=(aE.mp hc).1;rw[Sw.len_list]at hi;refine⟨sg c,Str.ofString "0123456789",rfl,rfl,?_⟩;refine⟨_,v9,F5 (by rw[aj,aj,eZ];omega),fun b o e=>?_,?_⟩
   ·rw[bw (gq e hD)];exact s' _ _ e
   ·rw[bh,sY hc,aC,aC];show some (HO.lst (_++[V.bl (Txt.contains Sw.tT (sg c))]))=some (HO.lst (_++[V.bl (decide (c∈Sw.tT.cps.toList))]));rw[Sw.Eo c]
  ·rintro τ H1 ⟨_,s1,v9⟩;rw[<-Sw.len_list,kE]at v9;refine⟨D,_,rfl,.of v9,_,rfl,?_⟩;rw[ZW];refine cy (fun c=>no s1 fun y=>of_decide_eq_false c y.2.2.1) fun c=>hR _ _ ?_;have dg:Sw.tP z:=by simpa using c
   clear hR;refine bU fun R hR=>?_;obtain⟨c0,Eh⟩:∃c,z.cps.toList[0]?=some c:=⟨_,gu (by rw[Sw.len_list];omega)⟩;have gM:¬Sw.kH z->R [some (.str z),some (.int m)] H1:=fun nn=>by refine hR _ _ ?_;walk_at"rd";exact⟨z,_,rfl,Sw.Au (by omega) (by omega) dg,by omega,k _ (Sw.Ba ⟨by omega,by omega,dg,nn⟩) _ s1⟩
   clear hR;walk_at"rd";refine⟨z,0,c0,rfl,rfl,Bc (by omega),Mi (j:=0) Eh,?_⟩;walk_at"rd";refine cy (fun c1=>cy (fun c2=>gM ?_) fun c2=>no s1 fun y=>y.2.2.2 ⟨?_,?_⟩) fun c1=>gM fun y=>c1 ?_
   ·intro y;have:=y.2;rw[c2]at this;exact absurd this (by decide+kernel)
   ·have e:(Str.ofString "0").cps.toList=[c0]:=Sw.CN.mp c1;rw[Sw.uV]at e;cases e
    exact Eh
   ·rcases Nat.lt_or_ge 1 z.length with h|h
    ·exact h
    ·refine absurd ?_ c2;have e:(Str.ofString "0").cps.toList=[c0]:=Sw.CN.mp c1;refine Sw.fU ?_;rw[e];have hl:=Sw.len_list z;generalize z.cps.toList=l at hl Eh⊢
     match l,hl,Eh with
     |[a],_,h0=>cases h0;rfl
     |[],_,h0=>cases h0
     |_::_::_,hl,_=>simp at hl;omega
   ·have e:=y.1;rw[Eh]at e;cases e
    exact Sw.CN.mpr Sw.uV
def N9:Sp:=fun vs H Q _=>∃n:Nat,vs=[.int (n:Int)]/\n<10^60/\∀H',aQ H H'->Q (.str (Sw.eR (n:Int))) H'
theorem zzf{n:Nat}(h:n<10^60):(n:Int).natAbs.log2<1920:=by
 have h1:n<2^200:=Am h (by decide);show n.log2<1920;by_cases z:n=0
 ·rw[z];decide
 ·exact Am ((BN z).mpr h1) (by decide)
include T in
theorem XV:ko P w K mg base (eK P w) 1 "figures_of" ["number"] N9:=by
 refine T.sU.okN (k:=0) g8 (fun vs H Q E h=>?_) (fun f bL A outer s H vs Q E hr h=>?_)
 ·obtain⟨n,rfl,_⟩:=h;rfl
 ·obtain⟨n,rfl,hn,k⟩:=h;refine⟨_,(bJ (jR (i:=1) g8.nd rfl (bj Lc aW aW)) (bJ (jR (i:=2) g8.nd rfl (qQ aO)) (bJ (Ma PassesOwn.never (iw Fp (pv 0) (pv 1) (iq _)) (bJ (gf (pS bT b9 cj F1 (pv 2) (az (pS gH PySem.F.slot_str_zfill PySem.F.type_str_zfill ZH (OC SV rfl T.CA boot_str (az (bj tI (pv 0) (pv 1)) aO)) (az aW aO)) aO))) (bR (jR (i:=0) g8.nd rfl (bj Zk (pv 0) (pv 1)))))) (bJ (gf (pS bT b9 cj F1 (pv 2) (az (OC SV rfl T.CA boot_str (az (pv 0) aO)) aO))) (bR (ki (Yx K rfl rfl T.w4 gg (az (pv 2) aO)))))))),?_⟩;show c9 _ _ _ [some (.int (n:Int)),none,none] H;walk_at"s";refine hR _ _ ?_;clear hR;walk_at"s";intro l hl;refine hR _ _ ?_;clear hR;have s1:=dZ (o:=.lst []) hl;have h1:aB H l (.lst []) l=some (.lst []):=bh;generalize aB H l (.lst [])=H1 at s1 h1⊢;refine bU fun R hR=>?_;refine SD (fun σ H'=>σ=[some (.int (n:Int)),some (.int (10^60)),some (.ref l)]/\H'=H1) (fun _ _=>0) ⟨rfl,rfl⟩ ?_;rintro σ H' ⟨rfl,rfl⟩;refine⟨false,fun Q hQ=>?_,(fun hb=>by cases hb),fun _=>hR _ _ ?_⟩
  ·walk_at"rd";have e:decide ((1000000000000000000000000000000000000000000000000000000000000:Int)<=(n:Int))=false:=decide_eq_false (by omega);rw[e];exact hQ
  clear hR;walk_at"s";refine⟨Mx h1,_,rfl,zzf hn,l,_,_,rfl,rfl,h1,by decide,hR _ _ ?_⟩;clear hR;walk_at"rd";simp only[Tr];walk_at"rd";refine⟨[Sw.eR (n:Int)],bh,Sw.Ep (m:=60) (fun z hz=>?_) (by decide) (by show 1<=200;decide) (by decide+kernel),?_⟩
  ·have:z=Sw.eR (n:Int):=by simpa using hz
   rw[this];exact mL (pZ n) (by decide) (by exact_mod_cast hn)
  ·have e:Txt.join (Str.ofString "") [Sw.eR (n:Int)].reverse=Sw.eR (n:Int):=by rw[Sw.join_eq];rfl
   rw[e];exact k _ fun b o e=>by rw[bw (gq e hl)];exact s1 _ _ e
inductive FH(K:aa)(vs:List V)(H:Hp)(Q:VK)(E:XK):Prop|mk (t:Addr) (n d:Int) (h1:vs=[.ref t]) (h2:p9 K H t [.int n,.int d]) (h3:n.natAbs<10^60) (h4:0<=d) (h5:d<10^60) (h6:∀H',aQ H H'->Q (.str (Sw.l6 (n,d))) H'):FH K vs H Q E
theorem Uh{n:Nat}(h:n<10^60):(Sw.eR (n:Int)).length<=60:=mL (pZ n) (by decide) (by exact_mod_cast h)
include T in
theorem WZ:ko P w K mg base (eK P w) 2 "show_fraction" ["one"] (FH K):=by
 have m9:=XV P w base T;refine T.oq.okN (k:=1) gU (fun vs H Q E h=>?_) (fun f bL A outer s H vs Q E hr h=>?_)
 ·obtain⟨t,n,d,rfl,_⟩:=h;rfl
 ·obtain⟨t,n,d,rfl,ht,hn,d0,d1,k⟩:=h;refine⟨_,(bJ (jR (i:=1) gU.nd rfl (L8 (iw nW (bE (jy K rfl) (pv 0) aW (fun _ _=>rfl)) aW (iq _)) gg gg)) (bJ (jR (i:=2) gU.nd rfl (bj Ow (pv 1) (gE m9 (hr.mono (by decide)) rfl eo (az (oJ OJ rfl T.yO boot_abs (az (bE (jy K rfl) (pv 0) aW (fun _ _=>rfl)) aO)) aO)))) (bR (ki (L8 (iw fh (bE (jy K rfl) (pv 0) aW (fun _ _=>rfl)) aW (iq _)) (pv 2) (bj Ow (bj Ow (pv 2) gg) (gE m9 (hr.mono (by decide)) rfl eo (az (bE (jy K rfl) (pv 0) aW (fun _ _=>rfl)) aO)))))))),?_⟩;show c9 _ _ _ [some (.ref t),none,none] H;refine bU fun R hR=>?_;have Qn:∀{H'}{Q:VK},aQ H H'->Q (.int n) H'->A1 K (.ref t) (.int 0) H' Q:=fun s q=>j0 (aQ.Ke s ht) rfl q;have Qo:∀{H'}{Q:VK},aQ H H'->Q (.int d) H'->A1 K (.ref t) (.int 1) H' Q:=fun s q=>j0 (aQ.Ke s ht) rfl q;walk_at"rd";have post:∀LM:Str,LM.length<=1->LM++Sw.eR (n.natAbs:Int)=Sw.eR n->R [some (.ref t),some (.str LM),none] H:=fun LM ls es=>by
   refine hR _ _ ?_;clear hR;walk_at"s";refine Qn (aQ.refl _) ⟨n,rfl,?_⟩;have ea:(if n<0 then -n else n)=(n.natAbs:Int):=by split <;> omega
   rw[ea];have ln:=Uh hn;refine⟨_,rfl,hn,fun H1 s1=>⟨_,rfl,Bc (by omega),hR _ _ ?_⟩⟩;clear hR;rw[es];have ln2:(Sw.eR n).length<=61:=by rw[<-es,Sw.qV];omega
   walk_at"rd";refine Qo s1 ⟨rfl,?_⟩;have k':Q (.str (Sw.l6 (n,d))) H1:=k _ s1;unfold Sw.l6 at k;simp only at k;refine cy (fun c=>?_) fun c=>?_
   ·have c:d=1:=by simpa using c
    rw[if_pos c]at k;exact k _ s1
   ·have c:d≠1:=by simpa using c
    rw[if_neg c]at k;obtain⟨m,rfl⟩:=br d0;have hm:m<10^60:=by exact_mod_cast d1
    have lm:=Uh hm;have ls:(Sw.eR n++Sw.aY).length=(Sw.eR n).length+1:=Sw.qV _ _;have l1:(Str.ofString "/").length=1:=by decide+kernel
    refine⟨Bc (by omega),Qo s1 ⟨m,rfl,hm,fun H2 s2=>⟨_,rfl,Bc (by show(Sw.eR n++Sw.aY).length+_<=_;omega),k _ (s1.trans s2)⟩⟩⟩
  clear hR;refine Qn (aQ.refl _) ⟨n,rfl,?_⟩;split
  ·rename_i oH
   refine post _ (by decide+kernel) ?_;have e:n= -(n.natAbs:Int):=by omega
   conv=>rhs;rw[e]
   exact(Sw.nV (by omega)).symm
  ·rename_i oH
   refine post _ (by decide+kernel) ?_;have e:(n.natAbs:Int)=n:=by omega
   rw[e];exact Sw.empty_app _
def KD(cT:Addr):Sp:=fun vs H Q E=>∃(z:Str),vs=[.str z]/\z.length<=9000/\(∀n,Sw.eX 40 (Sw.kN z)=some n->∀H',aQ H H'->Q (.int (if Sw.Below z then -n else n)) H')/\(Sw.eX 40 (Sw.kN z)=none->∀H',aQ H H'->Rs cT H' E)
include T in
theorem YC:ko P w K mg base (eK P w) 2 "read_top" ["word"] (KD cY):=by
 have gw:=Rr P w base T;refine T.vK.jS (k:=1) X6 (fun vs H Q E h=>?_) (fun f bL A outer s H vs Q E hr h=>?_)
 ·obtain⟨z,rfl,_⟩:=h;rfl
 ·obtain⟨z,rfl,zl,k,kx⟩:=h;refine⟨_,(bJ (bC (Bd (pS gH PySem.F.slot_str_startswith PySem.F.type_str_startswith Y3 (pv 0) (az gg aO))) (bR (ki (zH Mw (gE gw (hr.mono (by decide)) rfl aR (az (Tc zyx (pv 0) (TU aW) TR) (az (Aa rfl T.eM) aO)))))) gX) (bR (ki (gE gw (hr.mono (by decide)) rfl aR (az (pv 0) (az (Aa rfl T.eM) aO)))))),?_⟩;show c9 _ _ _ [some (.str z)] H;have fl:=Sw.Ed z;walk_at"s";refine⟨rfl,z,_,rfl,rfl,_,rfl,?_⟩;rw[Sw.vL];refine cy (fun b=>?_) fun b=>hR _ _ ?_
  ·have b:Sw.Below z:=by simpa using b
   have ef:Sw.kN z=Txt.slice z (some 1) none:=by rw[Sw.A2];unfold Sw.kN;rw[if_pos b]
   rw[ef]at k kx fl;simp only[if_pos b]at k;refine⟨z,rfl,Bc (by omega),_,40,rfl,by decide,by decide,by omega,fun n hn H1 s1=>⟨n,rfl,k n hn _ s1⟩,fun hn H1 s1=>kx hn _ s1⟩
  ·have b:¬Sw.Below z:=by simpa using b
   have ef:Sw.kN z=z:=by unfold Sw.kN;rw[if_neg b]
   rw[ef]at k kx;simp only[if_neg b]at k;clear hR;walk_at"rd";exact⟨z,40,rfl,by decide,by decide,by omega,fun n hn H1 s1=>k n hn _ s1,fun hn H1 s1=>kx hn _ s1⟩
def Kl(cT:Addr):Sp:=fun vs H Q E=>∃(z:Str),vs=[.str z]/\z.length<=9000/\(∀n,Sw.eX 40 z=some n->n≠0->∀H',aQ H H'->Q (.int n) H')/\(Sw.eX 40 z=none\/Sw.eX 40 z=some 0->∀H',aQ H H'->Rs cT H' E)
include T in
theorem XA:ko P w K mg base (eK P w) 2 "read_bottom" ["word"] (Kl cY):=by
 have gw:=Rr P w base T;refine T.qK.jS (k:=1) kX (fun vs H Q E h=>?_) (fun f bL A outer s H vs Q E hr h=>?_)
 ·obtain⟨z,rfl,_⟩:=h;rfl
 ·obtain⟨z,rfl,zl,k,kx⟩:=h;refine⟨_,(bJ (jR (i:=1) kX.nd rfl (gE gw (hr.mono (by decide)) rfl aR (az (pv 0) (az (Aa rfl T.eM) aO)))) (bJ (bC (iw fh (pv 1) aW (iq _)) (bR (mw K rfl rfl mC (oK T.lA T.lE rfl T.jO (az gg aO)))) gX) (bR (ki (pv 1))))),?_⟩;show c9 _ _ _ [some (.str z),none] H;walk_at"s";refine⟨z,40,rfl,by decide,by decide,by omega,fun n hn H1 s1=>hR _ _ ?_,fun hn H1 s1=>kx (.inl hn) _ s1⟩;clear hR;walk_at"s";refine cy (fun c=>?_) fun c=>hR _ _ ?_
  ·have c:n=0:=by simpa using c
   exact eW (kx (.inr (by rw[show Sw.eX 40 z=some n from hn,c])) _ s1) T.lH
  ·walk_at"rd";exact k n hn (by simpa using c) _ s1
theorem J7{t b:Int}(h:b≠0):(Sw.rN t b).natAbs<=t.natAbs:=by
 have e:=Sw.CK (t:=t) (b:=b);have g:=Sw.vf (a:=t) h;have e2:(Sw.rN t b).natAbs*(if b<0 then -(Sw.dv t b)else Sw.dv t b).natAbs=t.natAbs:=by rw[<-nj,e]
 rw[<-e2];exact zf _ (by split <;> omega)
theorem JZ{t b:Int}(h:b≠0):(Sw.rD t b).natAbs<=b.natAbs:=by
 have e:=Sw.CI (t:=t) (b:=b);have g:=Sw.vf (a:=t) h;have e2:(Sw.rD t b).natAbs*(if b<0 then -(Sw.dv t b)else Sw.dv t b).natAbs=b.natAbs:=by rw[<-nj,e]
 rw[<-e2];exact zf _ (by split <;> omega)
def Oe(cT:Addr):Sp:=fun vs H Q E=>∃(z:Str),vs=[.str z]/\z.length<=9000/\(∀q,Sw.kO z=some q->∀H' p,aQ H H'->H' p=some (.tup [.int q.1,.int q.2])->Q (.ref p) H')/\(Sw.kO z=none->∀H',aQ H H'->Rs cT H' E)
include T in
theorem W1:ko P w K mg base (eK P w) 3 "read_fraction" ["word"] (Oe cY):=by
  have xW:=YC P w base T;have tN:=XA P w base T;have dR:=DK P w base T;have pX:=WZ P w base T;refine T.om.jS (k:=2) gT (fun vs H Q E h=>?_) (fun f bL A outer s H vs Q E hr h=>?_)
  · obtain⟨z,rfl,_⟩:=h;rfl
  · obtain⟨z,rfl,zl,k,kx⟩:=h;refine⟨_,(bJ (jR (i:=1) gT.nd rfl (pS gH PySem.F.slot_str_partition PySem.F.type_str_partition zxe (pv 0) (az gg aO))) (bJ (jR (i:=2) gT.nd rfl (gE dR (hr.mono (by decide)) rfl aR (az (gE xW (hr.mono (by decide)) rfl aR (az (bE (jy K rfl) (pv 1) aW (fun _ _=>rfl)) aO)) (az (L8 (iw fh (bE (jy K rfl) (pv 1) aW (fun _ _=>rfl)) gg (iq _)) aW (gE tN (hr.mono (by decide)) rfl aR (az (bE (jy K rfl) (pv 1) aW (fun _ _=>rfl)) aO))) aO)))) (bJ (bC (iw w6 (gE pX (hr.mono (by decide)) rfl aR (az (pv 2) aO)) (pv 0) (iq _)) (bR (mw K rfl rfl mC (oK T.lA T.lE rfl T.jO (az gg aO)))) gX) (bR (ki (pv 2)))))),?_⟩;show c9 _ _ _ [some (.str z),none,none] H;walk_at"s";refine⟨rfl,z,_,rfl,rfl,by decide+kernel,Bc (by omega),fun p fp=>hR _ _ ?_⟩;clear hR;obtain⟨pl1,pl2,pl3⟩:=Sw.CF z Sw.aY;have s1:=dZ (o:=.tup [.str (Txt.partition z Sw.aY).1,.str (Txt.partition z Sw.aY).2.1,.str (Txt.partition z Sw.aY).2.2]) fp;have hp:aB H p (.tup [.str (Txt.partition z Sw.aY).1,.str (Txt.partition z Sw.aY).2.1,.str (Txt.partition z Sw.aY).2.2]) p=some (.tup [.str (Txt.partition z Sw.aY).1,.str (Txt.partition z Sw.aY).2.1,.str (Txt.partition z Sw.aY).2.2]):=bh;refine(show c9 _ _ _ [some (.str z),some (.ref p),none] (aB H p (.tup [.str (Txt.partition z Sw.aY).1,.str (Txt.partition z Sw.aY).2.1,.str (Txt.partition z Sw.aY).2.2]))from ?_);generalize aB H p (.tup [.str (Txt.partition z Sw.aY).1,.str (Txt.partition z Sw.aY).2.1,.str (Txt.partition z Sw.aY).2.2])=H1 at s1 hp⊢;walk_at"s";have ix:∀{H':Hp}{i:Int}{v:V}{Q:VK},aQ H1 H'->As [V.str (Txt.partition z Sw.aY).1,.str (Txt.partition z Sw.aY).2.1,.str (Txt.partition z Sw.aY).2.2] i=some v->Q v H'->A1 K (.ref p) (.int i) H' Q:=fun s e q=>j0 (.of (s _ _ hp)) e q;have post:∀(n b:Int)(H2:Hp)(t:Addr),Sw.eX 40 (Sw.kN (Txt.partition z Sw.aY).1)=some n->(if(Txt.partition z Sw.aY).2.1=Sw.aY then Sw.eX 40 (Txt.partition z Sw.aY).2.2 else some 1)=some b->b≠0->b<10^40->0<=b->aQ H H2->
        H2 t=some (.tup [.int (Sw.rN (if Sw.Below (Txt.partition z Sw.aY).1 then -n else n) b),.int (Sw.rD (if Sw.Below (Txt.partition z Sw.aY).1 then -n else n) b)])->R [some (.str z),some (.ref p),some (.ref t)] H2:=by
      intro n b H2 t hn hb b0 bl bn s2 ht;have fe:=Sw.Ay hn hb b0;have n0:=Sw.k8 hn;have nl:=Sw.z9 hn;generalize Np:(if Sw.Below (Txt.partition z Sw.aY).1 then -n else n)=tp at ht fe;have tl:tp.natAbs<10^40:=by
        have:tp.natAbs=n.natAbs:=by rw[<-Np];split <;> omega
        omega
      have r1:=J7 (t:=tp) b0;have r2:=JZ (t:=tp) b0;have r3:=(Sw.vF (t:=tp) b0).pos;generalize Sw.rN tp b=rn at ht fe r1;generalize Sw.rD tp b=rd at ht fe r2 r3;refine hR _ _ ?_;clear hR;walk_at"s";refine⟨t,rn,rd,rfl,.of ht,by omega,by omega,by omega,fun H3 s3=>⟨rfl,?_⟩⟩;refine cy (fun c=>hR _ _ ?_) fun c=>?_
      · have c:Sw.l6 (rn,rd)=z:=by simpa using c
        rw[if_pos c]at fe;walk_at"rd";exact k _ fe _ t (s2.trans s3) (s3 _ _ ht)
      · have c:¬Sw.l6 (rn,rd)=z:=by simpa using c
        rw[if_neg c]at fe;exact eW (kx fe _ (s2.trans s3)) T.lH
    clear hR;refine ix (aQ.refl _) rfl ⟨_,rfl,by omega,fun n hn H2 s2=>?_,fun hn H2 s2=>kx (Sw.yk hn) _ (s1.trans s2)⟩;refine ix s2 rfl ⟨rfl,?_⟩;rcases Sw.CG z with hs|hs
    · rw[if_neg (fun q=>by
        have q:(Txt.partition z Sw.aY).2.1=Str.ofString "":=by simpa using q
        rw[hs]at q;exact absurd q (by decide+kernel))]
      refine ix s2 rfl ⟨_,rfl,by omega,fun b hb b0 H3 s3=>?_,fun hb H3 s3=>kx ?_ _ ((s1.trans s2).trans s3)⟩
      · have bn:=Sw.k8 hb;have bl:=Sw.z9 hb;refine⟨_,b,200,rfl,by decide,?_,fun _ t ft=>post n b _ t hn (by rw[if_pos hs];exact hb) b0 bl bn (((s1.trans s2).trans s3).trans (dZ ft)) (by rw[<-Pd b0];exact bh),fun z=>absurd z b0⟩;show b.natAbs<2^200;have:(10:Nat)^40<2^200:=by decide
        omega
      · rcases hb with hb|hb
        · exact Sw.ym (by rw[if_pos hs];exact hb)
        · exact Sw.yn hs hb
    · rw[if_pos (by rw[hs];decide+kernel)];have DA:¬(Txt.partition z Sw.aY).2.1=Sw.aY:=by rw[hs];exact Sw.kL
      exact⟨_,1,200,rfl,by decide,by show(1:Int).natAbs<2^200;decide,fun _ t ft=>post n 1 _ t hn (if_neg DA) (by decide) (by decide) (by decide) ((s1.trans s2).trans (dZ ft)) (by rw[<-Pd (by decide)];exact bh),fun z=>absurd z (by decide)⟩
def rj(b:Int)(r:Rat):Prop:=1<=b/\b<=1000000000000/\0<=r
instance (b:Int)(r:Rat):Decidable (rj b r):=by unfold rj;infer_instance
inductive CQ(cN:Addr)(vs:List V)(H:Hp)(Q:VK)(E:XK):Prop|mk (b p r:_) (h1:vs=[.int b,.ref p]) (h2:H p=some (.tup (fq r))) (h3:Sw.fM 5000 r) (h4:(rj b r->∀l p2 H',aQ H H'->H' l=some (.tup [.int b,.ref p2])->H' p2=some (.tup (fq r))->Q (.ref l) H')) (h5:(¬rj b r->∀e H1,aQ H H1->H1 e=none->E (.ref e) none (aB H1 e (b7 e cN none false)))):CQ cN vs H Q E
include T in
theorem zzg:ko P w K mg base (eK P w) 2 "line" ["burst","rate"] (CQ cO):=by
 have iE:=K7 P w base T;refine T.C0.jS (k:=1) zxm (fun vs H Q E h=>?_) (fun f bL A outer s H vs Q E hr h=>?_)
 ·obtain⟨b,p,r,rfl,_⟩:=h;rfl
 ·obtain⟨b,p,r,rfl,hp,sr,k,kx⟩:=h;refine⟨_,(bJ (bC (Be (Ir fG fG aW (pv 0) (Aa rfl T.nP))) (bR (mw K rfl rfl mC (oK T.uB T.uI rfl T.o7 (az gg aO)))) gX) (bJ (bC (Bd (gE iE (hr.mono (by decide)) rfl aR (az (pv 1) (az (jH (az aW (az aW aO))) aO)))) (bR (mw K rfl rfl mC (oK T.uB T.uI rfl T.o7 (az gg aO)))) gX) (bR (ki (jH (az (pv 0) (az (jH (az (bE (jy K rfl) (pv 1) aW (fun _ _=>rfl)) (az (bE (jy K rfl) (pv 1) aW (fun _ _=>rfl)) aO))) aO))))))),?_⟩;show c9 _ _ _ [some (.int b),some (.ref p)] H;refine bU fun R hR=>?_;have tail:(1<=b/\b<=1000000000000)->R [some (.int b),some (.ref p)] H:=fun hb=>by
   refine hR _ _ ?_;walk_at"s";intro t ht;refine⟨p,t,r,0,rfl,dZ ht _ _ hp,EQ (n:=0),sr,Mq (Sw.Sz.zero _),?_⟩;walk_at"rd";have IW:r<0->¬rj b r:=fun h g=>by have:=g.2.2;grind
   refine cy (fun h e he=>⟨cO,none,bh,T.pH,?_⟩) (fun h=>hR _ _ ?_)
   ·rw[wj];exact kx (IW h) e _ (dZ ht) he
   ·have g:rj b r:=⟨hb.1,hb.2,by grind⟩;walk_at"rd";have s1:=dZ (o:=.tup [.int 0,.int 1]) ht;have Nk:=s1 _ _ hp;generalize aB H t (.tup [.int 0,.int 1])=H1 at s1 Nk⊢;refine j0 (.of Nk) rfl (j0 (.of Nk) rfl fun p2 Jd l fl=>?_);have s2:=dZ (o:=.tup (fq r)) Jd;have s3:=dZ (o:=.tup [.int b,.ref p2]) fl;exact k g l p2 _ ((s1.trans s2).trans s3) bh (s3 _ _ bh)
  walk_at"rd";have IW:¬(1<=b/\b<=1000000000000)->¬rj b r:=fun h g=>h ⟨g.1,g.2.1⟩;have rf:¬(1<=b/\b<=1000000000000)->∀(e:Addr),H e=none->∃x Oo,aB H e (b7 e cO none true) e=some (b7 e x Oo true)/\XC K x/\E (Value.ref e) Oo (aB (aB H e (b7 e cO none true)) e (b7 e x Oo false)):=fun h e he=>by refine⟨cO,none,bh,T.pH,?_⟩;rw[wj];exact kx (IW h) e _ (fun _ _ z=>z) he
  exact cy (fun h1=>cy (fun h2=>tail ⟨h1,h2⟩) fun h2=>rf fun z=>h2 z.2) fun h1=>rf fun z=>h1 z.1
def Pk(q:Q4):Prop:=0<=q.1/\q.1<=1000000000000/\0<=q.2.1/\q.2.1<=11/\1<=q.2.2.1/\q.2.2.1<=1000000/\1<=q.2.2.2/\q.2.2.2<=1000000
include T in
theorem ZX:HP P w K mg base (eK P w) 1 cA ["self","place"] (EB cA "place"):=by
 refine T.AF.ok (k:=0) W5 (fun vs H Q E h=>?_) (fun f bL A outer s H vs Q E hr h=>?_)
 ·obtain⟨e,y,rfl,_⟩:=h;rfl
 ·obtain⟨e,y,rfl,he,k⟩:=h;exact⟨_,(bR (K3 K rfl (pv 0) (pv 1) rfl)),Ci he T.iK T.qO k⟩
def Ob:Sp:=fun vs H Q _=>∃p q,vs=[.ref p]/\H p=some (.tup (q4 q))/\∀b:Bool,(b=true↔Pk q)->Q (.bl b) H
include T in
theorem Yb:ko P w K mg base (eK P w) 1 "in_ranges" ["piece"] Ob:=by
 refine T.ug.okN (k:=0) XJ (fun vs H Q E h=>?_) (fun f bL A outer s H vs Q E hr h=>?_)
 ·obtain⟨p,q,rfl,_⟩:=h;rfl
 ·obtain⟨p,q,rfl,hp,k⟩:=h;refine⟨_,(bR (ki (Mu (KY fG fG aW (bE (jy K rfl) (pv 0) aW (fun _ _=>rfl)) (Aa rfl T.AQ)) (Mu (KY fG fG aW (bE (jy K rfl) (pv 0) aW (fun _ _=>rfl)) (Aa rfl T.r8)) (Mu (KY fG fG aW (bE (jy K rfl) (pv 0) aW (fun _ _=>rfl)) (Aa rfl T.pQ)) (Uk (KY fG fG aW (bE (jy K rfl) (pv 0) aW (fun _ _=>rfl)) (Aa rfl T.pQ)))))))),?_⟩;show qL _ _ [some (.ref p)] H;have hT:p9 K H p (q4 q):=.of hp;walk_at"rd";refine j0 hT rfl ?_;walk_at"rd";have no:¬Pk q->Q (.bl false) H:=fun n=>k false ⟨fun z=>(by cases z),fun z=>absurd z n⟩;refine cy (fun c1=>cy (fun c2=>j0 hT rfl ⟨_,rfl,?_⟩) fun c=>no fun z=>c z.2.1) fun c=>no fun z=>c z.1;refine cy (fun c3=>⟨_,rfl,cy (fun c4=>j0 hT rfl ⟨_,rfl,?_⟩) fun c=>no fun z=>c z.2.2.2.1⟩) fun c=>no fun z=>c z.2.2.1;refine cy (fun c5=>⟨_,rfl,cy (fun c6=>j0 hT rfl ⟨_,rfl,?_⟩) fun c=>no fun z=>c z.2.2.2.2.2.1⟩) fun c=>no fun z=>c z.2.2.2.2.1;refine cy (fun c7=>⟨_,rfl,k _ ?_⟩) fun c=>no fun z=>c z.2.2.2.2.2.2.1;exact⟨fun z=>⟨c1,c2,c3,c4,c5,c6,c7,of_decide_eq_true z⟩,fun z=>decide_eq_true z.2.2.2.2.2.2.2⟩
def NR:Option Nat->V
 |none=>.non
 |some n=>.int n
inductive Kr(vs:List V)(H:Hp)(Q:VK)(E:XK):Prop|mk (l ps qs:_) (h1:vs=[.ref l]) (h2:Row H l ps qs) (h3:∀H',aQ H H'->Q (NR (Sw.jK qs 0 0)) H'):Kr vs H Q E
include T in
theorem Yc:ko P w K mg base (eK P w) 2 "first_bad" ["row"] Kr:=by
 have wq:=Yb P w base T;refine T.ue.okN (k:=1) gD (fun vs H Q E h=>?_) (fun f bL A outer s H vs Q E hr h=>?_)
 ·obtain⟨l,ps,qs,rfl,_⟩:=h;rfl
 ·obtain⟨l,ps,qs,rfl,R0,k⟩:=h;refine⟨_,(bJ (jR (i:=1) gD.nd rfl aW) (bJ (Mv PassesOwn.never rfl (Zo K rfl rfl T.vC (az (pv 0) aO)) (OZ (n:=2) K rfl rfl (Iq (Ac (i:=2) gD.nd rfl (by first|left;rfl|right;rfl)) (Iq (Ac (i:=3) gD.nd rfl (by first|left;rfl|right;rfl)) OV))) (bJ (bC (PW.pt (pw_or (iw Fp (pv 2) (Aa rfl T.sf) (iq _)) (pw_or (Be (Bd (gE wq (hr.mono (by decide)) rfl eo (az (pv 3) aO)))) (Mt (iw nW (bE (jy K rfl) (pv 3) aW (fun _ _=>rfl)) (pv 1) (iq _)))))) (bR (ki (pv 2))) gX) (bR (jR (i:=1) gD.nd rfl (bE (jy K rfl) (pv 3) aW (fun _ _=>rfl)))))) (bR (ki xE)))),?_⟩;show c9 _ _ _ [some (.ref l),none,none,none] H;walk_at"s";refine hR _ _ ?_;refine bU fun R hR=>?_;refine⟨_,rfl,l,rfl,⟨_,.of R0.hl⟩,?_⟩;refine Zl (xs:=ps.map V.ref) (fun i σ H'=>aQ H H'/\∃b v1 v2,σ=[some (.ref l),some (.int b),v1,v2]/\0<=b/\Sw.jK (qs.drop i) i b=Sw.jK qs 0 0) ⟨fun _ _ z=>z,0,none,none,rfl,by decide,rfl⟩ (fun i σ H' _⟨e,_⟩=>.of (R0.same e).hl) ?_ ?_
  ·rintro i x σ H' t hx ⟨sm,b,v1,v2,rfl,hb,eb⟩ ht;obtain⟨p,hp,rfl⟩:∃p,ps[i]?=some p/\V.ref p=x:=by simpa using hx
   have R1:=R0.same sm;obtain⟨q,hq,AD⟩:=R1.r.get hp;rw[Sw.B4 hq]at eb;have Hi:=dZ (o:=.tup [.int i,.ref p]) ht;have tU:=Hi _ _ AD;have hT:p9 K (aB H' t (.tup [.int i,.ref p])) p (q4 q):=.of tU;have Qf:p9 K (aB H' t (.tup [.int i,.ref p])) t [.int i,.ref p]:=.of bh;generalize aB H' t (.tup [.int i,.ref p])=H1 at Hi tU hT Qf⊢;walk_at"rd";refine⟨_,Qf,rfl,_,_,rfl,_,_,rfl,rfl,?_⟩;have out:¬Sw.oO i b q->Q (.int i) H1:=fun n=>by rw[Sw.BU n]at eb;have:=k H1 (sm.trans Hi);rw[<-eb]at this;exact this
   refine bU fun R' M3=>?_;walk_at"rd";refine cy (fun c=>out fun z=>?_) fun c1=>⟨p,q,rfl,tU,fun r Jz=>⟨r,rfl,?_⟩⟩
   ·have:=z.1;omega
   cases r with
   |false=>
    walk_at"rd";refine out fun z=>?_;obtain⟨_,y1,y2,y3,y4,y5,y6,y7,y8,_⟩:=z;cases Jz.mpr ⟨y1,y2,y3,y4,y5,y6,y7,y8⟩
   |true=>
    walk_at"rd";refine j0 hT rfl ⟨_,rfl,cy (fun c3=>out fun z=>?_) fun c3=>M3 _ _ ?_⟩
    ·obtain⟨_,_,_,_,_,_,_,_,_,z⟩:=z;omega
    walk_at"rd";refine j0 hT rfl ?_;walk_at"rd";have f:Sw.oO i b q:=by obtain⟨y1,y2,y3,y4,y5,y6,y7,y8⟩:=Jz.mp rfl;exact⟨by omega,y1,y2,y3,y4,y5,y6,y7,y8,by omega⟩
    rw[Sw.BV f]at eb;exact⟨sm.trans Hi,f.2.1,eb⟩
  ·rintro σ H' ⟨sm,b,v1,v2,rfl,hb,eb⟩;refine hR _ _ ?_;walk_at"rd";rw[aj,R0.r.len,List.drop_length]at eb;have:=k H' sm;rw[<-eb]at this;exact this
def zzh:Sp:=fun vs H Q _=>∃p q,vs=[.ref p]/\H p=some (.tup (q4 q))/\∀r,H r=none->Q (.ref r) (aB H r (.tup (q4 q)))
include T in
theorem zzi:ko P w K mg base (eK P w) 1 "anew" ["piece"] zzh:=by
 refine T.CZ.okN (k:=0) zxk (fun vs H Q E h=>?_) (fun f bL A outer s H vs Q E hr h=>?_)
 ·obtain⟨p,q,rfl,_⟩:=h;rfl
 ·obtain⟨p,q,rfl,hp,k⟩:=h;refine⟨_,(bR (ki (jH (az (bE (jy K rfl) (pv 0) aW (fun _ _=>rfl)) (az (bE (jy K rfl) (pv 0) aW (fun _ _=>rfl)) (az (bE (jy K rfl) (pv 0) aW (fun _ _=>rfl)) (az (bE (jy K rfl) (pv 0) aW (fun _ _=>rfl)) aO))))))),?_⟩;show qL _ _ [some (.ref p)] H;walk_at"rd";exact j0 (.of hp) rfl (j0 (.of hp) rfl (j0 (.of hp) rfl (j0 (.of hp) rfl k)))
inductive FD(K:aa)(cB:Addr)(vs:List V)(H:Hp)(Q:VK)(E:XK):Prop|mk (l ps qs:_) (h1:vs=[.ref l]) (h2:Row H l ps qs) (h3:qs.length<=10000) (h4:(Sw.jK qs 0 0=none->∀H' l2 Fv,aQ H H'->H l2=none->Row H' l2 Fv qs->Q (.ref l2) H')) (h5:∀n,Sw.jK qs 0 0=some n->∀e d H',aQ H H'->H' e=some (b7 e cB (some d) false)->H' d=some (tG d [("place",.int n)])->E (.ref e) (some d) H'):FD K cB vs H Q E
include T in
theorem S7:ko P w K mg base (eK P w) 3 "checked" ["row"] (FD K cA):=by
 have wm:=Yc P w base T;have F7:=zzi P w base T;have BG:=ZX P w base T;refine T.xu.jS (k:=2) sO (fun vs H Q E h=>?_) (fun f bL A outer s H vs Q E hr h=>?_)
 ·obtain⟨l,ps,qs,rfl,_⟩:=h;rfl
 ·obtain⟨l,ps,qs,rfl,R0,gh,k,kx⟩:=h;refine⟨_,(bJ (jR (i:=1) sO.nd rfl (gE wm (hr.mono (by decide)) rfl aR (az (pv 0) aO))) (bJ (bC (iw IA (pv 1) xE (iq _)) (bR (mw K rfl rfl mC (Mp BG T.iK T.AK (hr.mono (by decide)) eo rfl T.o6 (az (pv 1) aO)))) gX) (bR (ki (sN ["piece"] [] rfl (by with_unfolding_all rfl) (by decide+kernel) rfl (by decide+kernel) (by exact bB) (by with_unfolding_all rfl) bB (Iu K rfl (pv 0)) (fun _ _ _=>(Ac (i:=0) (show(["piece"]:List Str).Nodup from by decide+kernel) rfl (by first|left;rfl|right;rfl))) (fun _ _ _=>KZ) (fun _ _ _=>(gE F7 (hr.mono (by decide)) rfl eo (az (pv 0) aO)))))))),?_⟩;show c9 _ _ _ [some (.ref l),none] H;walk_at"s";refine⟨l,ps,qs,rfl,R0,fun H1 sm=>hR _ _ ?_⟩;refine bU fun R hR=>?_;cases eb:Sw.jK qs 0 0 with
  |some n=>
   show uh _ _ _ _ [some (.ref l),some (.int n)] H1;walk_at"rd";refine Nu (by intro z;cases z) (NH fun e d H2 x=>⟨_,_,x.he,T.iK,kx n eb e d _ (fun b o z=>?_) bh ?_⟩)
   ·have z1:=sm _ _ z;rw[bw (gq z1 x.fe)];exact x.sm _ _ z1
   ·rw[bw x.ne];exact x.hd
  |none=>
   show uh _ _ _ _ [some (.ref l),some .non] H1;walk_at"rd";refine hR _ _ ?_;have R1:=R0.same sm;walk_at"rd";refine⟨⟨_,.of R1.hl⟩,fun D hD=>?_⟩;have lD:l≠D:=R1.ne hD;refine L6 (xs:=ps.map V.ref) (fun i τ H'=>∃v Fv,τ=[v]/\ye H1 H' l (ps.map V.ref) D Fv (qs.take i)/\jo H' ps qs/\Fv.length=i) ⟨none,[],rfl,⟨dZ hD,dZ hD _ _ R1.hl,bh,.nil⟩,R1.r.same (dZ hD),rfl⟩ (fun i τ H' _⟨_,_,_,J,_⟩=>.of J.hp) ?_ ?_
   ·rintro i x τ H' hx ⟨v,Fv,rfl,J,ht,xN⟩;obtain⟨p,hp,rfl⟩:∃p,ps[i]?=some p/\V.ref p=x:=by simpa using hx
    obtain⟨q,hq,AD⟩:=ht.get hp;have hi:i<ps.length:=(aE.mp hp).1;have hT:p9 K H' p (q4 q):=.of AD;walk_at"rd";unfold De;walk_at"rd";refine⟨p,q,rfl,AD,fun t hn=>?_⟩;have Hi:=dZ (o:=.tup (q4 q)) hn;have J:=J.same Hi;have ht:=ht.same Hi;refine⟨_,J.hl,?_,?_⟩
    ·rw[aj,xN,sizeLine_eq];have:=R1.r.len;omega
    ·refine⟨Fv++[t],?_,?_,?_⟩
     ·rw[SH hq];exact J.snoc hD lD bh
     ·exact ht.keep fun b xs e=>by rw[bw (bQ e J.hl (by intro z;cases z))];exact e
     ·rw[bY,xN];rfl
   ·rintro τ H' ⟨v,Fv,rfl,J,ht,xN⟩;refine k eb H' D Fv (sm.trans J.sm) ?_ ⟨J.hl,?_⟩
    ·cases z:H D with
     |none=>rfl
     |some o=>rw[sm _ _ z]at hD;cases hD
    ·have:=J.r
     rwa [aj,R0.r.len,kE]at this
inductive FA(cT:Addr)(vs:List V)(H:Hp)(Q:VK)(E:XK):Prop|mk (l ps ss:_) (h1:vs=[.ref l]) (h2:Lj H l ps ss) (h3:Sw.Pq ss) (h4:(Sw.tq (ss.map fun s=>s.2.2)<1->∀H',aQ H H'->Q .non H')) (h5:(¬Sw.tq (ss.map fun s=>s.2.2)<1->∀e d pa pg H',aQ H H'->H' e=some (b7 e cT (some d) false)->H' d=some (tG d [("asked",.ref pa),("given",.ref pg)])->H' pa=some (.tup (fq (Sw.tq (ss.map fun s=>s.2.2))))->H' pg=some (.tup (fq 1))->E (.ref e) (some d) H')):FA cT vs H Q E
include T in
theorem XD:ko P w K mg base (eK P w) 5 "check_rates" ["senders"] (FA dG):=by
 have DO:=zxp P w base T;have iE:=K7 P w base T;have dR:=DK P w base T;have Aj:=Za P w base T;refine T.qI.jS (k:=4) kW (fun vs H Q E h=>?_) (fun f bL A outer s H vs Q E hr h=>?_)
 ·obtain⟨l,ps,ss,rfl,_⟩:=h;rfl
 ·obtain⟨l,ps,ss,rfl,SL,PL,k,kx⟩:=h;refine⟨_,(bJ (jR (i:=1) kW.nd rfl (gE DO (hr.mono (by decide)) rfl aR (az (sN ["share","line"] [] rfl (by with_unfolding_all rfl) (by decide+kernel) rfl (by decide+kernel) (by exact bB) (by with_unfolding_all rfl) bB (Iu K rfl (pv 0)) (fun _ _ _=>(OZ (n:=2) K rfl rfl (Iq (Ac (i:=0) (show(["share","line"]:List Str).Nodup from by decide+kernel) rfl (by first|left;rfl|right;rfl)) (Iq (Ac (i:=1) (show(["share","line"]:List Str).Nodup from by decide+kernel) rfl (by first|left;rfl|right;rfl)) OV)))) (fun _ _ _=>KZ) (fun _ _ _=>(bE (jy K rfl) (pv 1) aW (fun _ _=>rfl)))) aO))) (bR (bC (Be (Bd (gE iE (hr.mono (by decide)) rfl aR (az (pv 1) (az (jH (az aW (az aW aO))) aO))))) (bR (mw K rfl rfl mC (Mp Aj T.fY T.yD (hr.mono (by decide)) eo rfl T.mV (az (pv 1) (az (gE dR (hr.mono (by decide)) rfl aR (az aW (az aW aO))) aO))))) gX))),?_⟩;show c9 _ _ _ [some (.ref l),none] H;have len:=SL.len;have n8:=PL.n8;walk_at"s";refine⟨⟨_,.of SL.hl⟩,fun Dl v9=>?_⟩;refine L6 (xs:=ps.map V.ref) (fun m τ H'=>∃v0 v1 es,τ=[v0,v1]/\aQ H H'/\Pn fq H' Dl es ((ss.map fun s=>s.2.2).take m)) ⟨none,none,[],rfl,dZ v9,⟨bh,.nil⟩⟩ (fun m τ H' _⟨_,_,_,_,s',_⟩=>.of (s' _ _ SL.hl)) ?_ ?_
  ·rintro m y τ H1 hy ⟨v0,v1,es,rfl,s1,L1⟩;obtain⟨p,hp,rfl⟩:∃p,ps[m]?=some p/\V.ref p=y:=by simpa using hy
   obtain⟨sd,Qe,pl,pr,h1,h2,h3⟩:=Oz SL.r hp;have hm:m<ss.length:=(aE.mp Qe).1;have el:=SI L1.r;rw[eZ,aj]at el;refine⟨p,_,rfl,.of (s1 _ _ h1),rfl,_,_,rfl,_,_,rfl,rfl,?_⟩;simp only[De,if_true];walk_at"rd";refine j0 (.of (s1 _ _ h2)) rfl ?_;have kt:∀b xs,H1 b=some (.tup xs)->aB H1 Dl (.lst (es.map V.ref++[.ref pr])) b=some (.tup xs):=fun b xs e=>by rw[bw (bQ e L1.hl (by intro z;cases z))];exact e
   have hx:(ss.map fun s=>s.2.2)[m]?=some sd.2.2:=by rw[dO,Qe];rfl
   refine⟨_,L1.hl,iG (by rw[aj];omega),fun b o e=>?_,es++[pr],?_⟩
   ·rw[bw (gq e v9)];exact s1 _ _ e
   ·rw[Ou hx];exact⟨by rw[bh,aC];rfl,Sf (kt _ _ (s1 _ _ h3)) (Ys L1.r kt)⟩
  rintro τ H1 ⟨v0,v1,es,rfl,s1,L1⟩;rw[b6 (by rw[aj,aj];omega)]at L1;refine⟨Dl,es,_,rfl,L1,fun i=>(PL.sz i).mono (by decide),fun q hq=>?_,fun r H2 s2 Jz=>hR _ _ ?_⟩
  ·obtain⟨s0,Ii,rfl⟩:=aZ.mp hq;exact(PL.rz s0 Ii).mono (by decide)
  have sm:=s1.trans s2;walk_at"rd";intro pa fa;have n1:=dZ (o:=.tup [.int 1,.int 1]) fa;have z:=PL.sz ss.length;rw[b6 (by rw[aj];omega)]at z;refine⟨r,pa,_,((1:Int):Rat),rfl,n1 _ _ Jz,EQ (n:=1),z.mono (by decide),(Sw.fM.int (n:=1) (z:=4) (Sw.Sz.one _)).mono (by decide),?_⟩;have sm:=sm.trans n1;have Qd:=n1 _ _ Jz;generalize aB H2 pa (.tup [.int 1,.int 1])=H3 at sm Qd⊢;by_cases c:Sw.tq (ss.map fun s=>s.2.2)<1
  ·rw[decide_eq_true (show Sw.tq (ss.map fun s=>s.2.2)<((1:Int):Rat)from c)];walk_at"rd";exact k c _ sm
  ·rw[decide_eq_false (show ¬Sw.tq (ss.map fun s=>s.2.2)<((1:Int):Rat)from c)];walk_at"rd";refine⟨1,1,10,rfl,by decide,Sw.Sz.one _,fun _ pg fg=>?_,fun z=>absurd z (by decide)⟩;have n2:=dZ (o:=.tup (fq (((1:Int):Rat) / ((1:Int):Rat)))) fg;refine VZ fun e d H4 x=>⟨_,_,x.he,T.fY,kx c e d r pg _ (fun b o z=>?_) bh ?_ ?_ ?_⟩
   ·have z1:=n2 _ _ (sm _ _ z);rw[bw (gq z1 x.fe)];exact x.sm _ _ z1
   ·rw[bw x.ne];exact x.hd
   ·have z1:=n2 _ _ Qd;rw[bw (gq z1 x.fe)];exact x.sm _ _ z1
   ·have z1:aB H3 pg (.tup (fq (((1:Int):Rat) / ((1:Int):Rat)))) pg=some (.tup (fq (((1:Int):Rat) / ((1:Int):Rat)))):=bh;rw[bw (gq z1 x.fe),x.sm _ _ z1,MW];rfl
include T in
theorem kn:Ge K dI [cW,cO,cQ,dE,cI,cV,cX,cJ,cK,dF,dA,cY,cA,dC,dG,cG]:=⟨T.Wi,fun c hc=>by
 simp only[ah,eG,or_false]at hc;rcases hc with rfl|rfl|rfl|rfl|rfl|rfl|rfl|rfl|rfl|rfl|rfl|rfl|rfl|rfl|rfl|rfl
 ·exact⟨T.yL,T.tE⟩
 ·exact⟨T.AV,T.pH⟩
 ·exact⟨T.AW,T.uT⟩
 ·exact⟨T.Cu,T.tF⟩
 ·exact⟨T.yJ,T.iW⟩
 ·exact⟨T.yK,T.gW⟩
 ·exact⟨T.yM,T.mX⟩
 ·exact⟨T.AU,T.iL⟩
 ·exact⟨T.wX,T.gc⟩
 ·exact⟨T.wZ,T.pU⟩
 ·exact⟨T.vz,T.oB⟩
 ·exact⟨T.AX,T.lH⟩
 ·exact⟨T.uO,T.iK⟩
 ·exact⟨T.wY,T.jQ⟩
 ·exact⟨T.sE,T.fY⟩
 ·exact⟨T.AS,T.lG⟩⟩
def CP(cT:Addr):Sp:=fun vs H _ E=>∃l ps ss,vs=[.ref l]/\Lj H l ps ss/\Sw.Pq ss/\¬Sw.tq (ss.map fun s=>s.2.2)<1/\∀e d pa pg H',aQ H H'->H' e=some (b7 e cT (some d) false)->H' d=some (tG d [("asked",.ref pa),("given",.ref pg)])->H' pa=some (.tup (fq (Sw.tq (ss.map fun s=>s.2.2))))->H' pg=some (.tup (fq 1))->E (.ref e) (some d) H'
include T in
theorem ZY:ko P w K mg base (eK P w) 6 "course" ["senders"] (CP dG):=by
 have tM:=XD P w base T;refine T.yT.jS (k:=5) Y8 (fun vs H Q E h=>?_) (fun f bL A outer s H vs Q E hr h=>?_)
 ·obtain⟨l,ps,ss,rfl,_⟩:=h;rfl
 ·obtain⟨l,ps,ss,rfl,SL,rt,nl,kx⟩:=h;refine⟨_,(bJ (gf (gE tM (hr.mono (by decide)) rfl aR (az (pv 0) aO))) (bJ vV (bJ vV (bJ vV (bJ vV (bR vV)))))),?_⟩;show c9 _ _ _ [some (.ref l),none,none,none,none,none,none,none] H;walk_at"s";exact⟨l,ps,ss,rfl,SL,rt,fun z=>absurd z nl,fun _=>kx⟩
include T in
theorem Ui:ko P w K mg base (eK P w) 7 "piles" ["senders"] (CP dG):=by
 have BE:=ZY P w base T;refine T.A4.jS (k:=6) xm (fun vs H Q E h=>?_) (fun f bL A outer s H vs Q E hr h=>?_)
 ·obtain⟨l,ps,ss,rfl,_⟩:=h;rfl
 ·obtain⟨l,ps,ss,rfl,SL,rt,nl,kx⟩:=h;refine⟨_,(bJ (jR (i:=1) xm.nd rfl (gE BE (hr.mono (by decide)) rfl aR (az (pv 0) aO))) (bR vV)),?_⟩;show c9 _ _ _ [some (.ref l),none] H;walk_at"s";exact⟨l,ps,ss,rfl,SL,rt,nl,kx⟩
def Kn(cN C Cm:Addr):Sp:=fun vs H _ E=>∃a most nm tg gs ck ch N l,vs=[.ref a.p,.ref l]/\Sx C Cm H a most nm tg gs ck ch N/\H l=some (.lst [])/\Rs cN H E
include T in
theorem W2:eg P w K mg base (eK P w) 1 dD "choose" ["self","ready"] [[]] (Kn dA dD cH):=by
 refine T.oZ.jS (k:=0) WH (fun vs H Q E h=>?_) (fun f bL A outer s H vs Q E hr h=>?_)
 ·obtain⟨a,most,nm,tg,gs,ck,ch,N,l,rfl,_⟩:=h;rfl
 ·obtain⟨a,most,nm,tg,gs,ck,ch,N,l,rfl,S,hl,kx⟩:=h;refine⟨_,(bJ (bC (Be (SQ K rfl (pv 1))) (bR (mw K rfl rfl mC (oK T.vh T.vt rfl T.nS (az gg aO)))) gX) (bJ vV (bJ vV (bR vV)))),?_⟩;show c9 _ _ _ [some (.ref a.p),some (.ref l),none] H;walk_at"s";refine⟨false,.inl ⟨_,.of hl,rfl⟩,?_⟩;rw[if_pos rfl];exact eW kx T.oB
def Uj(cL:Addr)(C:Cl):Sp:=fun vs H _ E=>∃(D:TD)(x:Str)(len:Int)(n:ND),vs=[.ref D.p,.str x,.int len]/\d9 C H D/\x≠eI/\bA D.ns x=some n/\n.ch=none/\¬(1<=len/\len<=D.most)/\Rs cL H E
include T in
theorem Yd:eg P w K mg base (eK P w) 3 dH "come" ["self","name","length"] [[]] (Uj cK (⟨cZ,dD,dB,cH,cD,dH⟩:Cl)):=by
 have gy:=Q3 P w base T;refine T.vv.jS (k:=2) XQ (fun vs H Q E h=>?_) (fun f bL A outer s H vs Q E hr h=>?_)
 ·obtain⟨D,x,len,n,rfl,_⟩:=h;rfl
 ·obtain⟨D,x,len,n,rfl,O,c1,hx,hc,nl,kx⟩:=h;refine⟨_,(bJ (gf (j9 (dX:=[]) gy (by simp) T.aS (hr.mono (by decide)) aR (pv 0) (az (pv 1) aO))) (bJ (bC (Be (Ir fG fG aW (pv 2) (je (pv 0) rfl))) (bR (mw K rfl rfl mC (oK T.kM T.kR rfl T.jg (az gg aO)))) gX) (bJ vV (bJ vV (bJ vV (bJ vV (bR vV))))))),?_⟩;show c9 _ _ _ [some (.ref D.p),some (.str x),some (.int len),none] H;obtain⟨dx,fs,hp,ft⟩:=O.ex;walk_at"s";refine kh hp (uN ft _) ⟨D,x,rfl,O,fun z=>absurd z (by rw[hx];simp[c1]),fun _ m hm z=>absurd hc (by rw[hx]at hm;cases hm;exact z),fun _ _ _ _=>hR _ _ ?_⟩;clear hR;walk_at"s";refine cy (fun c3=>?_) fun c3=>eW kx T.gc;refine jd hp T.aS T.iH ft.mo ?_;walk_at"rd";refine cy (fun c4=>absurd ⟨c3,c4⟩ nl) fun c4=>eW kx T.gc
def FE(cU:Addr)(C:Cl):Sp:=fun vs H _ E=>∃(D:TD)(x:Str)(v:V)(n:ND),vs=[.ref D.p,.str x,v]/\d9 C H D/\D.Wf/\x≠eI/\Up D.ns x [x,eI]/\bA D.ns x=some n/\n.ch=none/\n.bk≠none/\oG cU H E
include T in
theorem Ye:ko P w K mg base (eK P w) 3 "floor_for" ["tree","name","line"] (FE cG (⟨cZ,dD,dB,cH,cD,dH⟩:Cl)):=by
 have gy:=Q3 P w base T;have x8:=YB P w base T;have tS:=Xz P w base T;have BH:=ZS P w base T;refine T.uf.jS (k:=2) oh (fun vs H Q E h=>?_) (fun f bL A outer s H vs Q E hr h=>?_)
 ·obtain⟨D,x,v,n,rfl,_⟩:=h;rfl
 ·obtain⟨D,x,v,n,rfl,O,W,c1,hU,hx,hc,hb,kx⟩:=h;refine⟨_,(bJ (gf (j9 (dX:=[]) gy (by simp) T.aS (hr.mono (by decide)) aR (pv 0) (az (pv 1) aO))) (bJ (Mv PassesOwn.leaving rfl (Iu K rfl (j9 (dX:=[]) x8 (by simp) T.aS (hr.mono (by decide)) aR (pv 0) (az (pv 1) aO))) (Ac (i:=3) oh.nd rfl (by first|left;rfl|right;rfl)) (bR (bC (Bd (j9 (dX:=[]) tS (by simp) T.aS (hr.mono (by decide)) aR (pv 0) (az (pv 3) aO))) (bR (mw K rfl rfl mC (Mp BH T.lG T.AL (hr.mono (by decide)) eo rfl T.uK (az (pv 3) aO)))) gX))) (bJ vV (bJ vV (bR vV))))),?_⟩;show c9 _ _ _ [some (.ref D.p),some (.str x),some v,none,none] H;obtain⟨dx,fs,hp,ft⟩:=O.ex;walk_at"s";refine kh hp (uN ft _) ⟨D,x,rfl,O,fun z=>absurd z (by rw[hx];simp[c1]),fun _ m hm z=>absurd hc (by rw[hx]at hm;cases hm;exact z),fun _ _ _ _=>hR _ _ ?_⟩;clear hR;refine bU fun R hR=>?_;refine OM fun Z hZ=>?_;walk_at"rd";refine kh hp (uN ft _) ⟨D,x,rfl,O,W,fun z=>absurd z (by rw[hx];simp[c1]),fun _ ys VR l H1 s1 fl hl=>?_⟩;have ey:ys.reverse.tail.map V.str=[V.str x]:=by rw[VR.det hU];rfl
  rw[ey]at hl;refine⟨l,rfl,⟨_,.of hl⟩,hZ _ _ ?_⟩;have O1:=O.same s1;obtain⟨dx,fs,hp,ft⟩:=O1.ex;refine S8 (K:=K) (a:=l) (xs:=[V.str x]) (fun i σ H'=>i=0/\H'=H1/\σ=[some (.ref D.p),some (.str x),some v,none,none]) ⟨rfl,rfl,rfl⟩ (fun i σ H' _⟨_,e,_⟩=>by rw[e];exact .of hl) ?_ fun σ H' h=>absurd h.1 (by simp);rintro i y σ H2 hy ⟨rfl,rfl,rfl⟩;cases hy
  show(_:TS) _ [some (.ref D.p),some (.str x),some v,some (.str x),none] _;refine O7 fun R hR=>?_;walk_at"rd";refine kh hp (uN ft _) ⟨D,x,rfl,O1,fun z=>absurd z (by rw[hx];simp[c1]),fun _ m hm=>?_⟩;rw[hx]at hm;cases hm
  rw[Option.isSome_iff_ne_none.mpr hb];walk_at"rd";refine NH fun e d H4 z=>⟨_,_,z.he,T.lG,kx e (some d) _ (fun b o q=>?_) bh (.inr ⟨d,_,rfl,by rw[bw z.ne];exact z.hd⟩)⟩;have q:=s1 _ _ q;rw[bw (gq q z.fe)];exact z.sm _ _ q
include T in
theorem Xn:ko P w K mg base (eK P w) 4 "longest_wait" ["tree","name","line"] (FE cG (⟨cZ,dD,dB,cH,cD,dH⟩:Cl)):=by
 have wo:=Ye P w base T;refine T.pq.jS (k:=3) j8 (fun vs H Q E h=>?_) (fun f bL A outer s H vs Q E hr h=>?_)
 ·obtain⟨D,x,v,n,rfl,_⟩:=h;rfl
 ·obtain⟨D,x,v,n,rfl,O,W,c1,hU,hx,hc,hb,kx⟩:=h;refine⟨_,(bJ (jR (i:=3) j8.nd rfl (gE wo (hr.mono (by decide)) rfl aR (az (pv 0) (az (pv 1) (az (pv 2) aO))))) (bR vV)),?_⟩;show c9 _ _ _ [some (.ref D.p),some (.str x),some v,none] H;walk_at"s";exact⟨D,x,v,n,rfl,O,W,c1,hU,hx,hc,hb,kx⟩
theorem Fq{cN cB cS:Addr}{H:Hp}{n:Int}{Q:VK}{E:XK}(kx:∀e x pm H',aQ H H'->H' e=some (b7 e cS (some x) false)->H' x=some (tG x [("missing",.ref pm)])->H' pm=some (.tup (fq ((1000-n % 1000:Int):Rat)))->E (.ref e) (some x) H'):
    ∀p,H p=none->∀x dx,aB H p (.tup [.int 0,.int 1]) x=none->aB H p (.tup [.int 0,.int 1]) dx=none->¬dx=x->EA cN cB [.ref x,.int (1+n % 1000),.ref p,.int 0] (aB (aB (aB H p (.tup [.int 0,.int 1])) dx (.own x)) x (.ins cB dx [])) (fun v H2=>v= .non/\xh cB (Str.ofString "pay") (.ref x) H2 (CU cS cB [.ref x,.int (n % 7),.int 1001] H2 Q E)) E:=by
  intro p fp x dx hx wc ne;have sp:=dZ (o:=.tup [.int 0,.int 1]) fp;have s0:=sp.trans (xU (C:=cB) hx wc);have m0:=bZ n (show(1000:Int)≠0 by decide);have m1:=bM n (show(0:Int)<1000 by decide);have t0:=bZ n (show(7:Int)≠0 by decide);have t1:=bM n (show(0:Int)<7 by decide);have px:p≠x:=gq bh hx;have pd:p≠dx:=gq bh wc;have fx:H x=none:=by rw[bw px.symm]at hx;exact hx
  refine⟨x,dx,1+n % 1000,p,0,0,rfl,bh,by rw[bw px,bw pd];exact EQ (n:=0),Mq (n:=0) (Sw.Sz.zero _),fun _ H1 bt B=>⟨rfl,?_⟩,fun z=>absurd ⟨by omega,Rat.le_refl⟩ z⟩;have s1:=bt.same s0 fx;obtain⟨E4,fs,pr,pl,hp,fb,kQ,hl⟩:=id B.ex;generalize n % 7=t at t0 t1⊢;generalize n % 1000=m at m0 m1 kx B⊢;have lv:Sw.lvl (1+m) 0 0 ((1+m:Int):Rat) t=((1+m:Int):Rat):=by unfold Sw.lvl;rw[Rat.zero_mul,Rat.add_zero,uv];split <;> rfl
  have zd:Sw.Sz 300 (1+m):=Sw.Sz.mono (m:=20) (show(1+m).natAbs<2^20 by omega) (by decide);have lt:((1+m:Int):Rat)<((1001:Int):Rat):=Rat.intCast_lt_intCast.mpr (by omega);refine kh hp (fb.zE _) ⟨x,t,1001,1+m,0,0,_,rfl,B,⟨zd,Sw.fM.int (z:=299) (n:=0) (Sw.Sz.zero _),Sw.fM.int (z:=299) zd⟩,Sw.Sz.mono (m:=20) (show(t-0).natAbs<2^20 by omega) (by decide),Sw.Sz.mono (m:=20) (show(1001:Int).natAbs<2^20 by decide) (by decide),fun le=>absurd (lv▸le) (Rat.not_le.mpr lt),fun _ e y pm H' sm he hy hm=>kx e y pm H' (s1.trans sm) he hy ?_⟩;rw[hm,lv,<-HS];congr 4;omega
theorem Kc{H:Hp}{q1 q2:Q4}:∀p,H p=none->∀p1,aB H p (.tup (q4 q1)) p1=none->∀p2,aB (aB H p (.tup (q4 q1))) p1 (.tup (q4 q2)) p2=none->
    Row (aB (aB (aB H p (.tup (q4 q1))) p1 (.tup (q4 q2))) p2 (.lst [.ref p,.ref p1])) p2 [p,p1] [q1,q2]/\aQ H (aB (aB (aB H p (.tup (q4 q1))) p1 (.tup (q4 q2))) p2 (.lst [.ref p,.ref p1])):=by
  intro p f p1 f1 p2 f2;have s1:=dZ (o:=.tup (q4 q1)) f;have s2:=dZ (o:=.tup (q4 q2)) f1;have s3:=dZ (o:=.lst [.ref p,.ref p1]) f2;exact⟨⟨bh,.cons (s3 _ _ (s2 _ _ bh)) (.cons (s3 _ _ bh) .nil)⟩,(s1.trans s2).trans s3⟩
theorem IX{q1 q2:Q4}(h1:Sw.oO 0 0 q1)(h2:¬Sw.oO 1 q1.1 q2):Sw.jK [q1,q2] 0 0=some 1:=by unfold Sw.jK;rw[if_pos h1];unfold Sw.jK;rw[if_neg h2]
theorem Ft{H:Hp}{cT:Addr}{a:Int}{r1 r2:Rat}{t1 t2:List V}{Q:VK}{E:XK}(e1:t1=fq r1)(e2:t2=fq r2)(z1:Sw.fM 100 r1)(z2:Sw.fM 100 r2)(nl:¬r1+(r2+0)<1)(kx:∀e d pa pg H',aQ H H'->H' e=some (b7 e cT (some d) false)->H' d=some (tG d [("asked",.ref pa),("given",.ref pg)])->H' pa=some (.tup (fq (r1+(r2+0))))->H' pg=some (.tup (fq 1))->E (.ref e) (some d) H'):
    ∀p,H p=none->∀p1,aB H p (.tup t1) p1=none->∀p2,aB (aB H p (.tup t1)) p1 (.tup [.int 5,.ref p]) p2=none->∀p3,aB (aB (aB H p (.tup t1)) p1 (.tup [.int 5,.ref p])) p2 (.tup [.int a,.ref p1]) p3=none->∀p4,aB (aB (aB (aB H p (.tup t1)) p1 (.tup [.int 5,.ref p])) p2 (.tup [.int a,.ref p1])) p3 (.tup t2) p4=none->∀p5,aB (aB (aB (aB (aB H p (.tup t1)) p1 (.tup [.int 5,.ref p])) p2 (.tup [.int a,.ref p1])) p3 (.tup t2)) p4 (.tup [.int 3,.ref p3]) p5=none->
    ∀p6,aB (aB (aB (aB (aB (aB H p (.tup t1)) p1 (.tup [.int 5,.ref p])) p2 (.tup [.int a,.ref p1])) p3 (.tup t2)) p4 (.tup [.int 3,.ref p3])) p5 (.tup [.int 2,.ref p4]) p6=none->CP cT [.ref p6] (aB (aB (aB (aB (aB (aB (aB H p (.tup t1)) p1 (.tup [.int 5,.ref p])) p2 (.tup [.int a,.ref p1])) p3 (.tup t2)) p4 (.tup [.int 3,.ref p3])) p5 (.tup [.int 2,.ref p4])) p6 (.lst [.ref p2,.ref p5])) Q E:=by
  subst e1 e2;intro p f;have s1:=dZ (o:=.tup (fq r1)) f;have h1:aB H p (.tup (fq r1)) p=some (.tup (fq r1)):=bh;generalize aB H p (.tup (fq r1))=H1 at s1 h1⊢;intro p1 f1;have s2:=dZ (o:=.tup [.int 5,.ref p]) f1;have h2:aB H1 p1 (.tup [.int 5,.ref p]) p1=some (.tup [.int 5,.ref p]):=bh;have h1:=s2 _ _ h1;generalize aB H1 p1 (.tup [.int 5,.ref p])=H2 at s2 h1 h2⊢;intro p2 f2;have s3:=dZ (o:=.tup [.int a,.ref p1]) f2;have h3:aB H2 p2 (.tup [.int a,.ref p1]) p2=some (.tup [.int a,.ref p1]):=bh;have h1:=s3 _ _ h1;have h2:=s3 _ _ h2;generalize aB H2 p2 (.tup [.int a,.ref p1])=H3 at s3 h1 h2 h3⊢;intro p3 f3;have s4:=dZ (o:=.tup (fq r2)) f3;have h4:aB H3 p3 (.tup (fq r2)) p3=some (.tup (fq r2)):=bh;have h1:=s4 _ _ h1;have h2:=s4 _ _ h2;have h3:=s4 _ _ h3;generalize aB H3 p3 (.tup (fq r2))=H4 at s4 h1 h2 h3 h4⊢;intro p4 f4 p5 f5 p6 f6;have s5:=dZ (o:=.tup [.int 3,.ref p3]) f4;have s6:=dZ (o:=.tup [.int 2,.ref p4]) f5;have s7:=dZ (o:=.lst [.ref p2,.ref p5]) f6;have s8:=(s5.trans s6).trans s7;refine⟨p6,[p2,p5],[(a,5,r1),(2,3,r2)],rfl,⟨bh,.cons ⟨p1,p,s8 _ _ h3,s8 _ _ h2,s8 _ _ h1⟩ (.cons ⟨p4,p3,s7 _ _ bh,s7 _ _ (s6 _ _ bh),s8 _ _ h4⟩ .nil)⟩,⟨by show 2<=8;decide,fun i=>?_,fun s hs=>?_⟩,nl,fun e d pa pg H' sm=>kx e d pa pg H' ((((s1.trans s2).trans s3).trans s4).trans (s8.trans sm))⟩
  · have z0:Sw.fM 100 0:=Sw.fM.int (z:=99) (n:=0) (Sw.Sz.zero _)
    match i with
    |0=>exact z0.mono (by decide)
    |1=>exact(z1.add z0).mono (by decide)
    |j+2=>
      refine(show Sw.fM 1200 (Sw.tq (List.take (j+2) [r1,r2]))from ?_);rw[b6 (by simp)];exact Sw.fM.mono (n:=1200) (z1.add (z2.add z0)) (by decide)
  · simp only[ah,eG,or_false]at hs;rcases hs with rfl|rfl
    · exact z1.mono (by decide)
    · exact z2.mono (by decide)
theorem KH{q:Rat}(h:q.num.natAbs<8/\q.den<8):Sw.fM 5000 q:=Sw.fM.mono (m:=3) ⟨h.1,h.2⟩ (by decide)
theorem PB:∀z∈[Str.ofString "",Str.ofString "01",Str.ofString "2/4",Str.ofString "x"],Sw.kO z=none/\z.length<=9000:=by decide+kernel
structure Ll(cs:List Addr)(wh:Int)(H:Hp)(Q:VK)(E:XK):Prop where
 a0:wh=0->oG (cs.getD 0 0) H E
 a1:wh=1->oG (cs.getD 1 0) H E
 a7:wh=7->oG (cs.getD 7 0) H E
 UZ:wh=11->oG (cs.getD 11 0) H E
 U0:wh=12->oG (cs.getD 12 0) H E
 U1:wh=13->oG (cs.getD 13 0) H E
 U3:wh=14->oG (cs.getD 14 0) H E
 no:wh≠0->wh≠1->wh≠7->wh≠11->wh≠12->wh≠13->wh≠14->Q .non H
def Ky(cs:List Addr):Sp:=fun vs H Q E=>∃wh n:Int,vs=[.int wh,.int n]/\0<=n/\n<1000000000000/\Ll cs wh H Q E
include T in
theorem WL:ko P w K mg base (eK P w) 8 "_law_of_stages" ["_law_which","_law_number"] (Ky [cW,cO,cQ,dE,cI,cV,cX,cJ,cK,dF,dA,cY,cA,dC,dG,cG]):=by
 have dR:=DK P w base T;have F8:=zzg P w base T;have jJ:=OT P w base T;have pW:=W1 P w base T;have oN:=S7 P w base T;have jW:=RV P w base T;have uZ:=Ui P w base T;refine T.mW.jS (k:=7) WB (fun vs H Q E h=>?_) (fun f bL A outer s H vs Q E hr h=>?_)
 ·obtain⟨wh,n,rfl,_⟩:=h;rfl
 ·obtain⟨wh,n,rfl,n0,n1,k⟩:=h;refine⟨_,(bJ (bC (iw fh (pv 0) aW (iq _)) (bR (gf (gE dR (hr.mono (by decide)) rfl aR (az (pv 1) (az aW aO))))) gX) (bJ (bC (iw fh (pv 0) aW (iq _)) (bR (gf (gE F8 (hr.mono (by decide)) rfl aR (az (bE (DH K rfl) (qQ (az aW (az (bj Dg (bj Lc aW aW) aW) aO))) (bj tI (pv 1) aW) (fun _ _=>rfl)) (az (jH (az (bj Dg aW (bj tI (pv 1) aW)) (az aW aO))) aO))))) gX) (bJ (bC (iw fh (pv 0) aW (iq _)) (bR (gf (DI (dX:=[V.int 0]) jJ (by simp) (hr.mono (by decide)) aR rfl T.lF (az (bE (DH K rfl) (qQ (az aW (az aW aO))) (bj tI (pv 1) aW) (fun _ _=>rfl)) (az (bE (DH K rfl) (qQ (az (jH (az aW (az aW aO))) (az (jH (az (zH Mw aW) (az aW aO))) aO))) (bj tI (pv 1) aW) (fun _ _=>rfl)) aO))))) gX) (bJ (bC (iw fh (pv 0) aW (iq _)) (bR (gf (gE pW (hr.mono (by decide)) rfl aR (az (bE (DH K rfl) (qQ (az gg (az gg (az gg (az gg aO))))) (bj tI (pv 1) aW) (fun _ _=>rfl)) aO)))) gX) (bJ (bC (iw fh (pv 0) aW (iq _)) (bR (gf (gE oN (hr.mono (by decide)) rfl aR (az (qQ (az (jH (az aW (az (bj tI (pv 1) aW) (az aW (az aW aO))))) (az (jH (az (bj Dg aW (bj tI (pv 1) aW)) (az aW (az aW (az aW aO))))) aO))) aO)))) gX) (bJ (bC (iw fh (pv 0) aW (iq _)) (bR (gf (j9 (dX:=[]) jW (by simp) T.ee (hr.mono (by decide)) aR (DI (dX:=[V.int 0]) jJ (by simp) (hr.mono (by decide)) aR rfl T.lF (az (bj Dg aW (bj tI (pv 1) aW)) (az (jH (az aW (az aW aO))) aO))) (az (bj tI (pv 1) aW) (az aW aO))))) gX) (bR (bC (iw fh (pv 0) aW (iq _)) (bR (gf (gE uZ (hr.mono (by decide)) rfl aR (az (qQ (az (jH (az (bj Dg aW (bj tI (pv 1) aW)) (az (jH (az aW (az (jH (az aW (az aW aO))) aO))) aO))) (az (jH (az aW (az (jH (az aW (az (jH (az aW (az aW aO))) aO))) aO))) aO))) aO)))) gX)))))))),?_⟩;show c9 _ _ _ [some (.int wh),some (.int n)] H;have e2:=u6 n;walk_at"s";refine cy (fun c=>?_) fun i0=>hR _ _ ?_
  ·exact⟨n,0,1,rfl,by decide,Sw.Sz.zero _,fun z=>absurd rfl z,fun _=>(k.a0 c).rs (aQ.refl _)⟩
  clear hR;walk_at"s";refine cy (fun c=>?_) fun i1=>hR _ _ ?_
  ·intro p f1;have s1:=dZ (o:=.lst [.int 0,.int 1000000000001]) f1;rcases e2 with e|e <;> rw[e]
   ·refine Bf (.of bh) rfl fun p2 f2=>?_;exact⟨0,p2,⟨1,3,by decide,by decide⟩,rfl,bh,KH (by decide),fun g=>absurd g.1 (by decide),fun _ e H1 sm he=>(k.a1 c).rs ((s1.trans (dZ f2)).trans sm) e he⟩
   ·refine Bf (.of bh) rfl fun p2 f2=>?_;exact⟨1000000000001,p2,⟨2,3,by decide,by decide⟩,rfl,bh,KH (by decide),fun g=>absurd g.2.1 (by decide),fun _ e H1 sm he=>(k.a1 c).rs ((s1.trans (dZ f2)).trans sm) e he⟩
  clear hR;walk_at"s";refine cy (fun c=>?_) fun i7=>hR _ _ ?_
  ·intro p f1;have s1:=dZ (o:=.lst [.int 0,.int 5]) f1;have go:∀(d:Int)(r:Rat)(H1:Hp)(pr:Addr),aQ H H1->H1 pr=some (.tup (fq r))->Sw.fM 5000 r->¬(1<=d/\0<=r)->∀x dx,H1 x=none->H1 dx=none->¬dx=x->EA cJ cD [.ref x,.int d,.ref pr,.int 0] (aB (aB H1 dx (.own x)) x (.ins cD dx [])) (fun v H2=>v=V.non/\R [some (V.int wh),some (V.int n)] H2) E:=fun d r H1 pr sm wd zr nb x dx hx wc ne=>⟨x,dx,d,pr,r,0,rfl,bh,xU hx wc _ _ wd,zr,fun z=>absurd z nb,fun _ e H2 s2 he=>(k.a7 c).rs ((sm.trans (xU hx wc)).trans s2) e he⟩;rcases e2 with e|e <;> rw[e]
   ·refine Bf (.of bh) rfl fun p2 f2 p3 f3 p4 f4=>Bf (.of bh) rfl ?_;have s2:=dZ (o:=.tup [.int 1,.int 2]) f2;have s3:=dZ (o:=.tup [.int (-1),.int 2]) f3;have s4:=dZ (o:=.lst [.ref p2,.ref p3]) f4;exact go 0 ⟨1,2,by decide,by decide⟩ _ p2 (s1.trans ((s2.trans s3).trans s4)) (s4 _ _ (s3 _ _ bh)) (KH (by decide)) fun z=>absurd z.1 (by decide)
   ·refine Bf (.of bh) rfl fun p2 f2 p3 f3 p4 f4=>Bf (.of bh) rfl ?_;have s2:=dZ (o:=.tup [.int 1,.int 2]) f2;have s3:=dZ (o:=.tup [.int (-1),.int 2]) f3;have s4:=dZ (o:=.lst [.ref p2,.ref p3]) f4;exact go 5 ⟨-1,2,by decide,by decide⟩ _ p3 (s1.trans ((s2.trans s3).trans s4)) (s4 _ _ bh) (KH (by decide)) fun z=>absurd z.2 (by decide)
  clear hR;walk_at"s";refine cy (fun c=>?_) fun Qj=>hR _ _ ?_
  ·intro p f1;refine Qp (ks:=[Str.ofString "",Str.ofString "01",Str.ofString "2/4",Str.ofString "x"]) bh (bZ n (by decide)) (bM n (by decide)) fun z hz=>?_;exact⟨z,rfl,(PB z hz).2,fun q hq=>absurd hq (by rw[(PB z hz).1];simp),fun _ H' s'=>(k.UZ c).rs ((dZ f1).trans s')⟩
  clear hR;walk_at"s";refine cy (fun c=>?_) fun Qk=>hR _ _ ?_
  ·intro p f p1 f1 p2 f2;have t0:=bZ n (show(12:Int)≠0 by decide);have t1:=bM n (show(0:Int)<12 by decide);obtain⟨wg,sm⟩:=Kc (q1:=(3,n % 12,4,5)) (q2:=(3+n % 2,0,0,1)) p f p1 f1 p2 f2;have bd:=IX (q1:=(3,n % 12,4,5)) (q2:=(3+n % 2,0,0,1)) (by unfold Sw.oO;dsimp only;omega) (by unfold Sw.oO;dsimp only;omega);exact⟨p2,_,_,rfl,wg,by show 2<=10000;decide,fun z=>absurd z (by rw[bd];simp),fun m _ e d H' s' he hd=>k.U0 c e (some d) H' (sm.trans s') he (.inr ⟨d,_,rfl,hd⟩)⟩
  clear hR;walk_at"s";refine cy (fun c=>?_) fun Ql=>hR _ _ ?_
  ·exact Fq fun e x pm H' sm he hx _=>k.U1 c e (some x) H' sm he (.inr ⟨x,_,rfl,hx⟩)
  clear hR;walk_at"rd";refine cy (fun c=>?_) fun Qm=>?_
  ·exact Ft (r1:=1) (r2:=0) rfl rfl (Sw.fM.int (z:=99) (n:=1) (Sw.Sz.one _)) (Sw.fM.int (z:=99) (n:=0) (Sw.Sz.zero _)) (by decide+kernel) fun e d pa pg H' sm he hd _ _=>k.U3 c e (some d) H' sm he (.inr ⟨d,_,rfl,hd⟩)
  exact k.no i0 i1 i7 Qj Qk Ql Qm
abbrev nA:Str:=Str.ofString "a"
structure Lk(cs:List Addr)(wh:Int)(H:Hp)(Q:VK)(E:XK):Prop where
 a3:wh=3->oG (cs.getD 3 0) H E
 a4:wh=4->oG (cs.getD 4 0) H E
 a6:wh=6->oG (cs.getD 6 0) H E
 UY:wh=10->oG (cs.getD 10 0) H E
 no:wh≠3->wh≠4->wh≠6->wh≠10->∀H',aQ H H'->Q .non H'
def Kp(cs:List Addr):Sp:=fun vs H Q E=>∃wh n:Int,vs=[.int wh,.int n]/\0<=n/\n<1000000000000/\Lk cs wh H Q E
include T in
theorem WA:ko P w K mg base (eK P w) 6 "_law_of_choosers" ["_law_which","_law_number"] (Kp [cW,cO,cQ,dE,cI,cV,cX,cJ,cK,dF,dA,cY,cA,dC,dG,cG]):=by
 have rA:=TJ P w base T;have iF:=RW P w base T;have tR:=Xy P w base T;have oR:=WK P w base T;have p7:=W2 P w base T;refine T.kY.jS (k:=5) iD (fun vs H Q E h=>?_) (fun f bL A outer s H vs Q E hr h=>?_)
 ·obtain⟨wh,n,rfl,_⟩:=h;rfl
 ·obtain⟨wh,n,rfl,n0,n1,k⟩:=h;refine⟨_,(bJ (jR (i:=2) iD.nd rfl (DI (dX:=[]) rA (by simp) (hr.mono (by decide)) aR rfl T.uM (az aW aO))) (bJ (gf (j9 (dX:=[]) iF (by simp) T.bI (hr.mono (by decide)) aR (pv 2) (az gg (az (bj Dg aW (bj tI (pv 1) aW)) aO)))) (bJ (bC (iw fh (pv 0) aW (iq _)) (bR (gf (j9 (dX:=[]) iF (by simp) T.bI (hr.mono (by decide)) aR (pv 2) (az gg (az aW aO))))) gX) (bJ (bC (iw fh (pv 0) aW (iq _)) (bR (gf (j9 (dX:=[]) tR (by simp) T.bI (hr.mono (by decide)) aR (pv 2) (az gg aO)))) gX) (bJ (bC (iw fh (pv 0) aW (iq _)) (bR (gf (j9 (dX:=[]) oR (by simp) T.bI (hr.mono (by decide)) aR (pv 2) (az gg (az (bE (DH K rfl) (qQ (az aW (az (bj Dg (bj Lc aW aW) aW) aO))) (bj tI (pv 1) aW) (fun _ _=>rfl)) aO))))) gX) (bR (bC (iw fh (pv 0) aW (iq _)) (bR (gf (j9 (dX:=[]) p7 (by simp) T.bI (hr.mono (by decide)) aR (pv 2) (az (qQ aO) aO)))) gX))))))),?_⟩;show c9 _ _ _ [some (.int wh),some (.int n),none] H;have e2:=u6 n;have t0:=bZ n (show(9:Int)≠0 by decide);have t1:=bM n (show(0:Int)<9 by decide);walk_at"s";intro x dx hx wc ne;refine⟨x,dx,5,rfl,bh,fun a H1 ax bt f1 f2 f3 f4 S=>⟨rfl,hR _ _ ?_⟩⟩;clear hR;subst ax;have s1:aQ H H1:=bt.same (xU hx wc) hx;have Jj:∀H2,oS a H1 H2->aQ H H2:=fun H2 ow b o e=>by have e':=xU (C:=dD) hx wc _ _ e;exact ow b o (gq e hx) (gq e' f2) (gq e' f3) (gq e' f4) (s1 _ _ e)
  clear bt f1 f2 f3 f4;obtain⟨Lr,fs,pr,hp,ft,kQ⟩:=S.ex;walk_at"s";refine kh hp (ft.zE _) ⟨a,5,[],_,_,0,.non,0,nA,1+n % 9,rfl,S,by decide,fun z=>absurd rfl z,fun _ z=>absurd ⟨by omega,by omega⟩ z,fun _ _ H2 ow S2=>hR _ _ ?_⟩;clear hR;have s2:=Jj H2 ow;have sh:dw (([]:Nm)++[(nA,1+n % 9)]) nA=some (1+n % 9):=by simp[L2.dw]
  have sb:dw (([]:Nm)++[(nA,1+n % 9)]) (Str.ofString "b")=none:=by rw[fD];unfold L2.dw;rw[bz,decide_eq_false (show ¬Str.ofString "a"=Str.ofString "b"by decide+kernel)];rfl
  clear S ow s1 Jj hp ft kQ;generalize([]:Nm)++[(nA,1+n % 9)]=nm at S2 sh sb;obtain⟨Lr,fs,pr,hp,ft,kQ⟩:=S2.ex;walk_at"s";refine cy (fun c=>?_) fun i3=>hR _ _ ?_
  ·exact kh hp (ft.zE _) ⟨a,5,nm,_,_,_,_,_,nA,2,rfl,S2,by decide,fun _=>(k.a3 c).rs s2,fun z=>absurd z (by rw[sh];simp),fun z=>absurd z (by rw[sh];simp)⟩
  clear hR;walk_at"s";refine cy (fun c=>?_) fun i4=>hR _ _ ?_
  ·exact kh hp (ft.zE _) ⟨a,5,nm,_,_,_,_,_,_,rfl,S2,fun _=>(k.a4 c).rs s2,fun z=>absurd sb z⟩
  clear hR;walk_at"s";refine cy (fun c=>?_) fun i6=>hR _ _ ?_
  ·refine kh hp (ft.zE _) fun p f=>?_;have s3:=dZ (o:=.lst [.int 0,.int 1000001]) f;have go:∀v:Int,¬(1<=v/\v<=1000000)->yS cI cX dD cH [.ref a.p,.str nA,.int v] (aB H2 p (.lst [.int 0,.int 1000001])) (fun _ H1=>R [some (V.int wh),some (V.int n),some (V.ref a.p)] H1) E:=fun v nv=>⟨a,5,nm,_,_,_,_,_,nA,v,rfl,S2.same s3,by decide,fun z=>absurd z (by rw[sh];simp),fun _ _=>(k.a6 c).rs (s2.trans s3),fun _ z=>absurd z nv⟩;rcases e2 with e|e <;> rw[e]
   ·exact Bf (.of bh) rfl (go 0 (by decide))
   ·exact Bf (.of bh) rfl (go 1000001 (by decide))
  clear hR;walk_at"rd";refine cy (fun c=>?_) fun Qi=>k.no i3 i4 i6 Qi _ s2;refine kh hp (ft.zE _) fun l f=>?_;have s3:=dZ (o:=.lst []) f;exact⟨a,5,nm,_,_,_,_,_,l,rfl,S2.same s3,bh,(k.UY c).rs (s2.trans s3)⟩
theorem V2:∀z∈[Str.ofString "",Str.ofString "A",Str.ofString "abcdefghi",Str.ofString "a b"],¬wk z/\PyData.strOk z=true/\z.length<=10000:=by decide+kernel
structure T1(C:Cl)(H0 H:Hp)(D:TD)(m u:ND):Prop where
 O:d9 C H D
 W:D.Wf
 F:D.fit
 I:BI D
 tm:D.tm=0
 mo:D.most=9
 nm:D.ns.map (·.nm)=[eI,nA]
 ha:bA D.ns nA=some m
 hc:m.ch=none
 hu:m.ab=some eI
 hr:bA D.ns eI=some u
 ur:u.ab=none
 sm:aQ H0 H
 fr:∀b∈D.foot,H0 b=none
structure Lm(cs:List Addr)(wh:Int)(H:Hp)(E:XK):Prop where
 a2:wh=2->oG (cs.getD 2 0) H E
 a5:wh=5->oG (cs.getD 5 0) H E
 a8:wh=8->oG (cs.getD 8 0) H E
 a9:wh=9->oG (cs.getD 9 0) H E
 U4:wh=15->oG (cs.getD 15 0) H E
 no:wh=2\/wh=5\/wh=8\/wh=9\/wh=15
def KE(cs:List Addr):Sp:=fun vs H _ E=>∃wh n:Int,vs=[.int wh,.int n]/\0<=n/\n<1000000000000/\Lm cs wh H E
include T in
theorem W3:ko P w K mg base (eK P w) 9 "_law_of_trees" ["_law_which","_law_number"] (KE [cW,cO,cQ,dE,cI,cV,cX,cJ,cK,dF,dA,cY,cA,dC,dG,cG]):=by
 have Gd:=zzd P w base T;have mK:=YA P w base T;have wC:=Yd P w base T;have nB:=XU P w base T;have wD:=X9 P w base T;have ri:=Xn P w base T;refine T.oj.jS (k:=8) jP (fun vs H Q E h=>?_) (fun f bL A outer s H vs Q E hr h=>?_)
 ·obtain⟨wh,n,rfl,_⟩:=h;rfl
 ·obtain⟨wh,n,rfl,n0,n1,k⟩:=h;refine⟨_,(bJ (jR (i:=2) jP.nd rfl (DI (dX:=[V.str (Str.ofString "starts")]) Gd (by simp) (hr.mono (by decide)) aR rfl T.Es (az aW aO))) (bJ (gf (j9 (dX:=[V.non]) mK (by simp) T.aS (hr.mono (by decide)) aR (pv 2) (az gg (az gg (az gg (az aW aO)))))) (bJ (bC (iw fh (pv 0) aW (iq _)) (bR (gf (j9 (dX:=[V.non]) mK (by simp) T.aS (hr.mono (by decide)) aR (pv 2) (az (bE (DH K rfl) (qQ (az gg (az gg (az gg (az gg aO))))) (bj tI (pv 1) aW) (fun _ _=>rfl)) (az gg (az gg (az aW aO))))))) gX) (bJ (bC (iw fh (pv 0) aW (iq _)) (bR (gf (j9 (dX:=[V.non]) mK (by simp) T.aS (hr.mono (by decide)) aR (pv 2) (az gg (az gg (az gg (az aW aO))))))) gX) (bJ (bC (iw fh (pv 0) aW (iq _)) (bR (gf (j9 (dX:=[]) wC (by simp) T.aS (hr.mono (by decide)) aR (pv 2) (az gg (az (bE (DH K rfl) (qQ (az aW (az aW aO))) (bj tI (pv 1) aW) (fun _ _=>rfl)) aO))))) gX) (bJ (bC (iw fh (pv 0) aW (iq _)) (bJ (gf (j9 (dX:=[]) nB (by simp) T.aS (hr.mono (by decide)) aR (pv 2) (az (bj Dg aW (pv 1)) aO))) (bR (gf (j9 (dX:=[]) nB (by simp) T.aS (hr.mono (by decide)) aR (pv 2) (az (pv 1) aO))))) gX) (bR (bC (iw fh (pv 0) aW (iq _)) (bJ (gf (j9 (dX:=[]) wD (by simp) T.aS (hr.mono (by decide)) aR (pv 2) (az gg (az (bj Dg aW (bj tI (pv 1) aW)) (az (jH (az aW (az aW aO))) aO))))) (bR (gf (gE ri (hr.mono (by decide)) rfl aR (az (pv 2) (az gg (az (jH (az aW (az (jH (az aW (az aW aO))) aO))) aO))))))) gX)))))))),?_⟩;show c9 _ _ _ [some (.int wh),some (.int n),none] H;have e2:=u6 n;walk_at"s";intro x dx hx wc ne;refine⟨x,dx,9,Str.ofString "starts",rfl,bh,fun z=>absurd (by decide) z,fun _ z=>absurd (.inl rfl) z,fun _ _ pn pg nn a H' en bt fr O=>⟨rfl,hR _ _ ?_⟩⟩;clear hR;have J:∃D:TD,D.p=x/\d9 (⟨cZ,dD,dB,cH,cD,dH⟩:Cl) H' D/\D.Wf/\D.full/\BI D/\D.tm=0/\D.most=9/\D.ns=[nn]/\aQ H H'/\∀b∈D.foot,H b=none:=by
   refine⟨⟨x,pn,pg,9,0,0,0,[nn],[],[]⟩,rfl,O,TD.Wf.new (n:=nn) (a:=a) (b:=uG (Str.ofString "starts")) rfl (by rw[en]) (by rw[en]) (by rw[en]) (by show(1:Int)<=9/\(9:Int)<=1000000;decide),⟨by show 1<=60;omega,fun y hy d hd=>?_⟩,fun y hy=>by rw[aD.mp hy,en],rfl,rfl,rfl,bt.same (xU hx wc) hx,fun b hb=>?_⟩
   ·rw[aD.mp hy,en]at hd;cases hd
    show(gJ.new (uG (Str.ofString "starts"))).sz<=_;have:(gJ.new (uG (Str.ofString "starts"))).sz=0:=by cases uG (Str.ofString "starts") <;> rfl
    rw[this];exact di _
   ·cases e:H b with
    |none=>rfl
    |some o=>
     rcases fr b hb with q|q
     ·subst q;exact absurd (e.symm.trans hx) (by simp)
     ·rw[xU hx wc _ _ e]at q;cases q
  have nr:nn.nm=eI/\nn.ab=none/\nn.ch≠none:=by rw[en];exact⟨rfl,rfl,by simp⟩
  clear bt fr O en;obtain⟨D,rfl,O,W,F,I,tm,mo,ns,sm,fr⟩:=J;clear hx wc ne;obtain⟨Lr,fs,hp,ft⟩:=O.ex;have GJ:bA D.ns eI=some nn:=by rw[ns];unfold bA;rw[bz,decide_eq_true nr.1]
  have Ng:bA D.ns nA=none:=iR.mpr (by rw[ns,aM,nr.1,lj,aD];decide+kernel)
  have HY:jL D nA eI (Str.ofString "leaf") 3 .non=none:=Tz (by decide+kernel) Ng GJ ⟨.inl rfl,nr.2.2,fun ys U=>by rw[U.det (.top GJ nr.2.1)];decide⟩ (by decide) fun z=>by obtain⟨r,e,_⟩:=z.2;cases e
  walk_at"s";refine kh hp (uN ft _) ⟨D,nA,eI,Str.ofString "leaf",3,.non,rfl,O,W,F.fit,⟨by decide+kernel,by decide+kernel⟩,.inl rfl,fun r kQ=>absurd kQ (by rw[HY];simp),fun _ un c m H2 h1 h2 h3 h4 h5 h6 h7 h8 h9 Gw Jk MZ M0=>hR _ _ ?_⟩;clear hR;have PO:nC (⟨cZ,dD,dB,cH,cD,dH⟩:Cl) D nA eI (Str.ofString "leaf") 3 .non H' H2 (D.put un c 3 m):=⟨un,c,m,rfl,h1,h2,h3,h4,h5,h6,h7,h8,h9,Gw,Jk,MZ,M0⟩;have J:∃D2:TD,D2.p=D.p/\∃u,T1 (⟨cZ,dD,dB,cH,cD,dH⟩:Cl) H H2 D2 m u:=by
   rw[GJ]at h1;cases h1
   have hs:bA (dY D.ns {nn with ch:=some (c.1,c.2.put m.nm 3)}) m.nm=none:=by rw[h3];refine iR.mpr ?_;rw[Ms];exact iR.mp Ng
   refine⟨D.put nn c 3 m,rfl,{nn with ch:=some (c.1,c.2.put m.nm 3)},MZ,PO.wf W HY,(PO.full (.inl rfl) F (by rw[ns];show 1<60;decide)).fit,fun y hy=>?_,tm,mo,?_,?_,h9 rfl,h4,?_,nr.2.1,fun b o e=>M0 b o (fun z=>by rw[fr b z]at e;cases e) (sm _ _ e),fun b hb=>?_⟩
   ·rcases aA.mp hy with hy|hy
    ·rcases OU hy with q|q
     ·rw[q];exact I nn (Ad GJ).1
     ·exact I y q.1
    ·rw[aD.mp hy];exact h7
   ·show(dY D.ns _++[m]).map (·.nm)=_;rw[aC,Ms,ns,aM,lj,nr.1,aM,h3];rfl
   ·show bA (dY D.ns _++[m]) nA=_;rw[O9 hs,if_pos h3.symm]
   ·show bA (dY D.ns _++[m]) eI=_;rw[O9 hs,if_neg (by rw[h3];decide+kernel),ID,if_pos nr.1.symm,GJ];rfl
   ·rcases PO.foot b hb with z|z
    ·exact fr b z
    ·cases e:H b with
     |none=>rfl
     |some o=>rw[sm _ _ e]at z;cases z
  clear PO h1 h2 h3 h4 h5 h6 h7 h8 h9 Gw Jk MZ M0 HY Ng GJ hp ft;clear O W F I tm mo ns sm fr;obtain⟨D2,ep,u,J⟩:=J;rw[<-ep];clear ep;obtain⟨Lr,fs,hp,ft⟩:=J.O.ex;have sm:=J.sm;have ra:eI≠nA:=by decide+kernel
  walk_at"s";refine cy (fun c=>?_) fun i2=>hR _ _ ?_
  ·refine kh hp (uN ft _) fun p f=>?_;have s3:=dZ (o:=.lst [.str (Str.ofString ""),.str (Str.ofString "A"),.str (Str.ofString "abcdefghi"),.str (Str.ofString "a b")]) f;refine Qp (ks:=[Str.ofString "",Str.ofString "A",Str.ofString "abcdefghi",Str.ofString "a b"]) bh (bZ n (by decide)) (bM n (by decide)) fun z hz=>?_;have nz:=V2 z hz;refine⟨D2,z,eI,Str.ofString "leaf",1,.non,rfl,J.O.same s3,J.W,J.F,nz.2,.inl rfl,fun r kQ H3 s'=>?_,fun z=>absurd z (by rw[Mg nz.1];simp)⟩;rw[Mg nz.1]at kQ;cases kQ
   exact(k.a2 c).rs ((sm.trans s3).trans s')
  clear hR;walk_at"s";refine cy (fun c=>?_) fun i5=>hR _ _ ?_
  ·have HY:jL D2 (Str.ofString "b") nA (Str.ofString "leaf") 1 .non=some .place:=OH (by decide+kernel) (iR.mpr (by rw[J.nm];decide+kernel)) J.ha fun z=>z.2.1 J.hc;refine kh hp (uN ft _) ⟨D2,Str.ofString "b",nA,Str.ofString "leaf",1,.non,rfl,J.O,J.W,J.F,⟨by decide+kernel,by decide+kernel⟩,.inl rfl,fun r kQ H3 s'=>?_,fun z=>absurd z (by rw[HY];simp)⟩;rw[HY]at kQ;cases kQ
   exact(k.a5 c).rs (sm.trans s')
  clear hR;walk_at"s";refine cy (fun c=>?_) fun i8=>hR _ _ ?_
  ·refine kh hp (uN ft _) fun p f=>?_;have s3:=dZ (o:=.lst [.int 0,.int 10]) f;have go:∀v:Int,¬(1<=v/\v<=9)->Uj cK (⟨cZ,dD,dB,cH,cD,dH⟩:Cl) [.ref D2.p,.str nA,.int v] (aB H2 p (.lst [.int 0,.int 10])) (fun _ H1=>R [some (V.int wh),some (V.int n),some (V.ref D2.p)] H1) E:=fun v nv=>⟨D2,nA,v,m,rfl,J.O.same s3,ra.symm,J.ha,J.hc,by rw[J.mo];exact nv,(k.a8 c).rs (sm.trans s3)⟩;rcases e2 with e|e <;> rw[e]
   ·exact Bf (.of bh) rfl (go 0 (by decide))
   ·exact Bf (.of bh) rfl (go 10 (by decide))
  clear hR;walk_at"s";refine cy (fun c=>?_) fun i9=>hR _ _ ?_
  ·clear hR;walk_at"s";refine kh hp (uN ft _) ⟨D2,1+n,rfl,J.O,J.I,by have:=congrArg m6 J.nm;rw[aj]at this;rw[this];decide,fun z=>absurd z (by rw[J.tm];omega),fun _ H3 O3 dd=>hR _ _ ?_⟩;clear hR;have s3:aQ H H3:=fun b o e=>dd b o (fun z=>by rw[J.fr b z]at e;cases e) (sm _ _ e);obtain⟨Lr,fs,hp,ft⟩:=O3.ex;walk_at"rd";exact kh hp (uN ft _) ⟨{D2 with tm:=1+n},n,rfl,O3,J.I,by have:=congrArg m6 J.nm;rw[aj]at this;rw[this];decide,fun _=>(k.a9 c).rs s3,fun z=>absurd z (by show ¬1+n<=n;omega)⟩
  clear hR;walk_at"rd";refine cy (fun c=>?_) fun i15=>absurd k.no (by omega);walk_at"s";refine kh hp (uN ft _) fun p f=>?_;have s3:=dZ (o:=.tup [.int 1,.int 2]) f;have q0:=bZ n (show(100:Int)≠0 by decide);have q1:=bM n (show(0:Int)<100 by decide);refine⟨D2,nA,9+n % 100,p,⟨1,2,by decide,by decide⟩,rfl,J.O.same s3,J.W,bh,KH (by decide),fun z=>absurd z (by rw[J.ha];simp[ra.symm]),fun _ _ z=>absurd ⟨by rw[J.mo];omega,by omega,by decide+kernel⟩ z,fun _ _ m' b H3 Ic hb O3 dd=>hR _ _ ?_⟩;rw[J.ha]at Ic;cases Ic
  clear hR;have s4:aQ H H3:=fun b o e=>dd b o (fun z=>by rw[J.fr b z]at e;cases e) (s3 _ _ (sm _ _ e));walk_at"rd";intro p1 f1 p2 f2;have s5:=(dZ (o:=.tup [.int 0,.int 1]) f1).trans (dZ (o:=.tup [.int 1,.ref p1]) f2);have ha:bA (D2.vd m (some b)).ns nA=some {m with bk:=some b}:=by show bA (dY D2.ns _) nA=_;rw[ID,if_pos (Ad J.ha).2.symm,J.ha];rfl
  have kQ:bA (D2.vd m (some b)).ns eI=some u:=by show bA (dY D2.ns _) eI=_;rw[ID,if_neg (by show ¬eI=m.nm;rw[(Ad J.ha).2];exact ra),J.hr]
  exact⟨D2.vd m (some b),nA,_,{m with bk:=some b},rfl,O3.same s5,J.W.vd (Ad J.ha).1 _,ra.symm,.on ha J.hu (.top kQ J.ur),ha,J.hc,by simp,(k.U4 c).same (s4.trans s5)⟩
def Bt(i:Nat):List Bool:=(jC 16).map fun j=>decide (i=j)
theorem K8{H H':Hp}{d:Option Addr}(h:pN H d)(s:aQ H H'):pN H' d:=by
 rcases h with h|⟨x,fs,h,e⟩
 ·exact .inl h
 ·exact .inr ⟨x,fs,h,s _ _ e⟩
inductive Hl(cs:List Addr)(vs:List V)(H:Hp)(Q:VK)(E:XK):Prop|mk (e:Addr) (d:Option Addr) (i:Nat) (h1:vs=[.ref e]) (h2:H e=some (b7 e (cs.getD i 0) d false)) (h3:pN H d) (h4:i<16) (h5:∀p H',aQ H H'->H' p=some (.lst ((Bt i).map V.bl))->Q (.ref p) H'):Hl cs vs H Q E
include T in
theorem XW:F9 P w K mg base (eK P w) 1 "_law_kinds" ["_law_e"] (Hl [cW,cO,cQ,dE,cI,cV,cX,cJ,cK,dF,dA,cY,cA,dC,dG,cG]):=by
 have kn:=kn T;refine T.sQ.V9 (k:=0) fS (fun vs H Q E h=>?_) (fun f bL A outer s H vs Q E hr h=>?_)
 ·obtain⟨e,d,i,rfl,_⟩:=h;rfl
 ·obtain⟨e,d,i,rfl,he,hf,hi,k⟩:=h;refine⟨_,(bJ (jR (i:=1) fS.nd rfl (qQ (az (oJ (xC K rfl) rfl T.bg boot_isinstance (az (pv 0) (az (uU (v:=.ref cW) rfl T.sq rfl) aO))) (az (oJ (xC K rfl) rfl T.bg boot_isinstance (az (pv 0) (az (uU (v:=.ref cO) rfl T.o7 rfl) aO))) (az (oJ (xC K rfl) rfl T.bg boot_isinstance (az (pv 0) (az (uU (v:=.ref cQ) rfl T.uL rfl) aO))) (az (oJ (xC K rfl) rfl T.bg boot_isinstance (az (pv 0) (az (uU (v:=.ref dE) rfl T.sD rfl) aO))) aO)))))) (bJ (jR (i:=1) fS.nd rfl (bj Ld (pv 1) (qQ (az (oJ (xC K rfl) rfl T.bg boot_isinstance (az (pv 0) (az (uU (v:=.ref cI) rfl T.jZ rfl) aO))) (az (oJ (xC K rfl) rfl T.bg boot_isinstance (az (pv 0) (az (uU (v:=.ref cV) rfl T.gR rfl) aO))) (az (oJ (xC K rfl) rfl T.bg boot_isinstance (az (pv 0) (az (uU (v:=.ref cX) rfl T.su rfl) aO))) (az (oJ (xC K rfl) rfl T.bg boot_isinstance (az (pv 0) (az (uU (v:=.ref cJ) rfl T.jN rfl) aO))) aO))))))) (bJ (jR (i:=1) fS.nd rfl (bj Ld (pv 1) (qQ (az (oJ (xC K rfl) rfl T.bg boot_isinstance (az (pv 0) (az (uU (v:=.ref cK) rfl T.jg rfl) aO))) (az (oJ (xC K rfl) rfl T.bg boot_isinstance (az (pv 0) (az (uU (v:=.ref dF) rfl T.pR rfl) aO))) (az (oJ (xC K rfl) rfl T.bg boot_isinstance (az (pv 0) (az (uU (v:=.ref dA) rfl T.nS rfl) aO))) aO)))))) (bJ (jR (i:=1) fS.nd rfl (bj Ld (pv 1) (qQ (az (oJ (xC K rfl) rfl T.bg boot_isinstance (az (pv 0) (az (uU (v:=.ref cY) rfl T.jO rfl) aO))) (az (oJ (xC K rfl) rfl T.bg boot_isinstance (az (pv 0) (az (uU (v:=.ref cA) rfl T.o6 rfl) aO))) (az (oJ (xC K rfl) rfl T.bg boot_isinstance (az (pv 0) (az (uU (v:=.ref dC) rfl T.sy rfl) aO))) aO)))))) (bR (ki (bj Ld (pv 1) (qQ (az (oJ (xC K rfl) rfl T.bg boot_isinstance (az (pv 0) (az (uU (v:=.ref dG) rfl T.mV rfl) aO))) (az (oJ (xC K rfl) rfl T.bg boot_isinstance (az (pv 0) (az (uU (v:=.ref cG) rfl T.uK rfl) aO))) aO)))))))))),?_⟩;show c9 _ _ _ [some (.ref e),none] H;have xc:=(kn.at (i:=i) hi).2;have kt:∀j c,([cW,cO,cQ,dE,cI,cV,cX,cJ,cK,dF,dA,cY,cA,dC,dG,cG]:List Addr)[j]?=some c->bW K (.ref (([cW,cO,cQ,dE,cI,cV,cX,cJ,cK,dF,dA,cY,cA,dC,dG,cG]:List Addr).getD i 0)) (.ref c)=some (decide (i=j)):=fun j c hj=>kn.Nz hi hj;generalize([cW,cO,cQ,dE,cI,cV,cX,cJ,cK,dF,dA,cY,cA,dC,dG,cG]:List Addr).getD i 0=C at he xc kt;walk_at"s";refine xD he hf xc rfl (kt 0 cW rfl) (xD he hf xc rfl (kt 1 cO rfl) (xD he hf xc rfl (kt 2 cQ rfl) (xD he hf xc rfl (kt 3 dE rfl) fun p f=>hR _ _ ?_)));clear hR;have sm:=dZ (o:=.lst [.bl (decide (i=0)),.bl (decide (i=1)),.bl (decide (i=2)),.bl (decide (i=3))]) f;have he:=sm _ _ he;have hf:=K8 hf sm;have hl:aB H p (.lst [.bl (decide (i=0)),.bl (decide (i=1)),.bl (decide (i=2)),.bl (decide (i=3))]) p=some (.lst _):=bh;generalize aB H p (.lst [.bl (decide (i=0)),.bl (decide (i=1)),.bl (decide (i=2)),.bl (decide (i=3))])=H1 at sm he hf hl⊢;walk_at"s";refine xD he hf xc rfl (kt 4 cI rfl) (xD he hf xc rfl (kt 5 cV rfl) (xD he hf xc rfl (kt 6 cX rfl) (xD he hf xc rfl (kt 7 cJ rfl) fun p2 f2=>⟨p,p2,_,_,rfl,rfl,dZ f2 _ _ hl,bh,Bc (by show 8<=1000000;decide),fun p f3=>hR _ _ ?_⟩)));have s2:=(dZ (o:=.lst [.bl (decide (i=4)),.bl (decide (i=5)),.bl (decide (i=6)),.bl (decide (i=7))]) f2).trans (dZ (o:=.lst ([.bl (decide (i=0)),.bl (decide (i=1)),.bl (decide (i=2)),.bl (decide (i=3))]++[.bl (decide (i=4)),.bl (decide (i=5)),.bl (decide (i=6)),.bl (decide (i=7))])) f3);clear hR;have sm:=sm.trans s2;have he:=s2 _ _ he;have hf:=K8 hf s2;have hl:aB (aB H1 p2 (.lst [.bl (decide (i=4)),.bl (decide (i=5)),.bl (decide (i=6)),.bl (decide (i=7))])) p (.lst ([.bl (decide (i=0)),.bl (decide (i=1)),.bl (decide (i=2)),.bl (decide (i=3))]++[.bl (decide (i=4)),.bl (decide (i=5)),.bl (decide (i=6)),.bl (decide (i=7))])) p=some (.lst _):=bh;generalize aB (aB H1 p2 (.lst [.bl (decide (i=4)),.bl (decide (i=5)),.bl (decide (i=6)),.bl (decide (i=7))])) p (.lst ([.bl (decide (i=0)),.bl (decide (i=1)),.bl (decide (i=2)),.bl (decide (i=3))]++[.bl (decide (i=4)),.bl (decide (i=5)),.bl (decide (i=6)),.bl (decide (i=7))]))=H2 at sm he hf hl⊢;clear s2;walk_at"s";refine xD he hf xc rfl (kt 8 cK rfl) (xD he hf xc rfl (kt 9 dF rfl) (xD he hf xc rfl (kt 10 dA rfl) fun p2 f2=>⟨p,p2,_,_,rfl,rfl,dZ f2 _ _ hl,bh,Bc (by show 11<=1000000;decide),fun p f3=>hR _ _ ?_⟩));have s2:=(dZ (o:=.lst [.bl (decide (i=8)),.bl (decide (i=9)),.bl (decide (i=10))]) f2).trans (dZ (o:=.lst (([.bl (decide (i=0)),.bl (decide (i=1)),.bl (decide (i=2)),.bl (decide (i=3))]++[.bl (decide (i=4)),.bl (decide (i=5)),.bl (decide (i=6)),.bl (decide (i=7))])++[.bl (decide (i=8)),.bl (decide (i=9)),.bl (decide (i=10))])) f3);clear hR;have sm:=sm.trans s2;have he:=s2 _ _ he;have hf:=K8 hf s2;have hl:aB (aB H2 p2 (.lst [.bl (decide (i=8)),.bl (decide (i=9)),.bl (decide (i=10))])) p (.lst (([.bl (decide (i=0)),.bl (decide (i=1)),.bl (decide (i=2)),.bl (decide (i=3))]++[.bl (decide (i=4)),.bl (decide (i=5)),.bl (decide (i=6)),.bl (decide (i=7))])++[.bl (decide (i=8)),.bl (decide (i=9)),.bl (decide (i=10))])) p=some (.lst _):=bh;generalize aB (aB H2 p2 (.lst [.bl (decide (i=8)),.bl (decide (i=9)),.bl (decide (i=10))])) p (.lst (([.bl (decide (i=0)),.bl (decide (i=1)),.bl (decide (i=2)),.bl (decide (i=3))]++[.bl (decide (i=4)),.bl (decide (i=5)),.bl (decide (i=6)),.bl (decide (i=7))])++[.bl (decide (i=8)),.bl (decide (i=9)),.bl (decide (i=10))]))=H3 at sm he hf hl⊢;clear s2;walk_at"s";refine xD he hf xc rfl (kt 11 cY rfl) (xD he hf xc rfl (kt 12 cA rfl) (xD he hf xc rfl (kt 13 dC rfl) fun p2 f2=>⟨p,p2,_,_,rfl,rfl,dZ f2 _ _ hl,bh,Bc (by show 14<=1000000;decide),fun p f3=>hR _ _ ?_⟩));have s2:=(dZ (o:=.lst [.bl (decide (i=11)),.bl (decide (i=12)),.bl (decide (i=13))]) f2).trans (dZ (o:=.lst ((([.bl (decide (i=0)),.bl (decide (i=1)),.bl (decide (i=2)),.bl (decide (i=3))]++[.bl (decide (i=4)),.bl (decide (i=5)),.bl (decide (i=6)),.bl (decide (i=7))])++[.bl (decide (i=8)),.bl (decide (i=9)),.bl (decide (i=10))])++[.bl (decide (i=11)),.bl (decide (i=12)),.bl (decide (i=13))])) f3);clear hR;have sm:=sm.trans s2;have he:=s2 _ _ he;have hf:=K8 hf s2;have hl:aB (aB H3 p2 (.lst [.bl (decide (i=11)),.bl (decide (i=12)),.bl (decide (i=13))])) p (.lst ((([.bl (decide (i=0)),.bl (decide (i=1)),.bl (decide (i=2)),.bl (decide (i=3))]++[.bl (decide (i=4)),.bl (decide (i=5)),.bl (decide (i=6)),.bl (decide (i=7))])++[.bl (decide (i=8)),.bl (decide (i=9)),.bl (decide (i=10))])++[.bl (decide (i=11)),.bl (decide (i=12)),.bl (decide (i=13))])) p=some (.lst _):=bh;generalize aB (aB H3 p2 (.lst [.bl (decide (i=11)),.bl (decide (i=12)),.bl (decide (i=13))])) p (.lst ((([.bl (decide (i=0)),.bl (decide (i=1)),.bl (decide (i=2)),.bl (decide (i=3))]++[.bl (decide (i=4)),.bl (decide (i=5)),.bl (decide (i=6)),.bl (decide (i=7))])++[.bl (decide (i=8)),.bl (decide (i=9)),.bl (decide (i=10))])++[.bl (decide (i=11)),.bl (decide (i=12)),.bl (decide (i=13))]))=H4 at sm he hf hl⊢;clear s2;walk_at"rd";refine xD he hf xc rfl (kt 14 dG rfl) (xD he hf xc rfl (kt 15 cG rfl) fun p2 f2=>⟨p,p2,_,_,rfl,rfl,dZ f2 _ _ hl,bh,Bc (by show 16<=1000000;decide),fun p f3=>k p _ (sm.trans ((dZ f2).trans (dZ f3))) bh⟩)
theorem Ll.of{cs:List Addr}{wh:Int}{H:Hp}{Q:VK}{E:XK}{i:Nat}(hi:wh=i)(rs:oG (cs.getD i 0) H E)(no:wh≠0->wh≠1->wh≠7->wh≠11->wh≠12->wh≠13->wh≠14->Q .non H):Ll cs wh H Q E:=by
 have go:∀j:Nat,wh=j->oG (cs.getD j 0) H E:=fun j e=>by
  obtain rfl:i=j:=by omega
  exact rs
 exact⟨go 0,go 1,go 7,go 11,go 12,go 13,go 14,no⟩
theorem Lk.of{cs:List Addr}{wh:Int}{H:Hp}{Q:VK}{E:XK}{i:Nat}(hi:wh=i)(rs:oG (cs.getD i 0) H E)(no:wh≠3->wh≠4->wh≠6->wh≠10->∀H',aQ H H'->Q .non H'):Lk cs wh H Q E:=by
 have go:∀j:Nat,wh=j->oG (cs.getD j 0) H E:=fun j e=>by
  obtain rfl:i=j:=by omega
  exact rs
 exact⟨go 3,go 4,go 6,go 10,no⟩
theorem Lm.of{cs:List Addr}{wh:Int}{H:Hp}{E:XK}{i:Nat}(hi:wh=i)(rs:oG (cs.getD i 0) H E)(no:wh=2\/wh=5\/wh=8\/wh=9\/wh=15):Lm cs wh H E:=by
 have go:∀j:Nat,wh=j->oG (cs.getD j 0) H E:=fun j e=>by
  obtain rfl:i=j:=by omega
  exact rs
 exact⟨go 2,go 5,go 8,go 9,go 15,no⟩
def zzj:Sp:=fun vs H Q _=>∃(i:Nat)(n:Int),vs=[.int (i:Int),.int n]/\i<16/\0<=n/\n<1000000000000/\∀p H',aQ H H'->H' p=some (.lst ((Bt i++[true]).map V.bl))->Q (.ref p) H'
include T in
theorem Yg:ko P w K mg base (eK P w) 10 "_law_kind" ["_law_which","_law_number"] zzj:=by
 have oM:=WL P w base T;have mE:=WA P w base T;have pV:=W3 P w base T;have uX:=XW P w base T;have kn:=kn T;refine T.ud.okN (k:=9) iI (fun vs H Q E h=>?_) (fun f bL A outer s H vs Q E hr h=>?_)
 ·obtain⟨i,n,rfl,_⟩:=h;rfl
 ·obtain⟨i,n,rfl,hi,n0,n1,k⟩:=h;refine⟨_,(bJ (jR (i:=2) iI.nd rfl xE) (bJ (Mc (i:=3) rfl rfl K rfl rfl rfl T.uo rfl T.t9 iI.nd rfl rfl (fun _ _=>(bJ (gf (gE oM (hr.mono (by decide)) rfl sM (az (pv 0) (az (pv 1) aO)))) (bJ (gf (gE mE (hr.mono (by decide)) rfl sM (az (pv 0) (az (pv 1) aO)))) (bR (gf (gE pV (hr.mono (by decide)) rfl sM (az (pv 0) (az (pv 1) aO)))))))) (fun _=>(bR (jR (i:=2) iI.nd rfl (bj Ld (Zx uX (hr.mark) rfl (az (pv 3) aO)) (qQ (az (oJ (xC K rfl) rfl T.bg boot_isinstance (az (pv 3) (az (Z1 (v:=.ty "ValueError") rfl T.ua Boot.«ValueError» rfl) aO))) aO))))))) (bR (ki (pv 2))))),?_⟩;show c9 _ _ _ [some (.int (i:Int)),some (.int n),none,none] H;walk_at"s";refine hR _ _ ?_;clear hR;have at_:=kn.at (i:=i) hi;have NC:((Bt i).map V.bl).length+1<=1000000:=by rw[aj];unfold Bt;rw[aj,List.length_range];decide
  walk_at"s";have key:∀(e:Addr)(d:Option Addr)(H':Hp),aQ H H'->H' e=some (b7 e (([cW,cO,cQ,dE,cI,cV,cX,cJ,cK,dF,dA,cY,cA,dC,dG,cG]:List Addr).getD i 0) d false)->pN H' d->Hl [cW,cO,cQ,dE,cI,cV,cX,cJ,cK,dF,dA,cY,cA,dC,dG,cG] [.ref e] H' (fun x H1=>Pc K [.ref e,.ty "ValueError"] H1 fun y H2=>∀p,H2 p=none->JY x (.ref p) (aB H2 p (.lst [y])) fun z H3=>R [some (.int (i:Int)),some (.int n),some z,none] H3) E0:=fun e d H' sm he hf=>by refine⟨e,d,i,rfl,he,hf,hi,fun p H1 s1 hl=>xD (s1 _ _ he) (K8 hf s1) at_.2 rfl at_.1.NB fun p2 f2=>⟨p,p2,_,_,rfl,rfl,dZ f2 _ _ hl,bh,Bc NC,fun p3 f3=>hR _ _ ?_⟩⟩;walk_at"rd";refine k p3 _ (((sm.trans s1).trans (dZ f2)).trans (dZ f3)) ?_;rw[aC];exact bh
  refine bU fun R2 E9=>?_;walk_at"rd";refine⟨i,n,rfl,n0,n1,Ll.of rfl (fun e d H' sm he hf=>⟨e,rfl,_,he,at_.1.Hs,?_⟩) fun i0 i1 i7 Qj Qk Ql Qm=>E9 _ _ ?_⟩
  ·exact key e d H' sm he hf
  clear E9;refine bU fun R2 E9=>?_;walk_at"rd";refine⟨i,n,rfl,n0,n1,Lk.of rfl (fun e d H' sm he hf=>⟨e,rfl,_,he,at_.1.Hs,?_⟩) fun i3 i4 i6 Qi H1 s1=>E9 _ _ ?_⟩
  ·exact key e d H' sm he hf
  clear E9;walk_at"rd";refine⟨i,n,rfl,n0,n1,Lm.of rfl (fun e d H' sm he hf=>⟨e,rfl,_,he,at_.1.Hs,?_⟩) (by omega)⟩;exact key e d H' (s1.trans sm) he hf
def Ku:Sp:=fun vs H Q _=>∃n:Int,vs=[.int n]/\0<=n/\n<1000000000000/\∀H',aQ H H'->Q (.bl true) H'
include T in
theorem XE:ko P w K mg base (eK P w) 8 "_law_fields" ["_law_number"] Ku:=by
 have oN:=S7 P w base T;have jJ:=OT P w base T;have jW:=RV P w base T;have uZ:=Ui P w base T;refine T.qH.okN (k:=7) fH (fun vs H Q E h=>?_) (fun f bL A outer s H vs Q E hr h=>?_)
 ·obtain⟨n,rfl,_⟩:=h;rfl
 ·obtain⟨n,rfl,n0,n1,k⟩:=h;refine⟨_,(bJ (jR (i:=1) fH.nd rfl (qQ aO)) (bJ (Mc (i:=2) rfl rfl K rfl rfl rfl T.iK rfl T.o6 fH.nd rfl rfl (fun _ _=>(bR (gf (gE oN (hr.mono (by decide)) rfl sM (az (qQ (az (jH (az aW (az (bj tI (pv 0) aW) (az aW (az aW aO))))) (az (jH (az aW (az aW (az aW (az aW aO))))) aO))) aO))))) (fun _=>(bR (gf (Pf K rfl bT b9 cj F1 (pv 1) (az (Mn K rfl (pv 2) rfl) aO)))))) (bJ (Mc (i:=2) rfl rfl K rfl rfl rfl T.jQ rfl T.sy fH.nd rfl rfl (fun _ _=>(bR (gf (j9 (dX:=[]) jW (by simp) T.ee (hr.mono (by decide)) sM (DI (dX:=[V.int 0]) jJ (by simp) (hr.mono (by decide)) sM rfl T.lF (az (bj Dg aW (bj tI (pv 0) aW)) (az (jH (az aW (az aW aO))) aO))) (az (bj tI (pv 0) aW) (az aW aO)))))) (fun _=>(bR (gf (Pf K rfl bT b9 cj F1 (pv 1) (az (Mn K rfl (pv 2) rfl) aO)))))) (bJ (Mc (i:=2) rfl rfl K rfl rfl rfl T.fY rfl T.mV fH.nd rfl rfl (fun _ _=>(bR (gf (gE uZ (hr.mono (by decide)) rfl sM (az (qQ (az (jH (az aW (az (jH (az aW (az (jH (az aW (az aW aO))) aO))) aO))) (az (jH (az aW (az (jH (az aW (az (jH (az aW (az aW aO))) aO))) aO))) aO))) aO))))) (fun _=>(bR (gf (Pf K rfl bT b9 cj F1 (pv 1) (az (jH (az (Mn K rfl (pv 2) rfl) (az (Mn K rfl (pv 2) rfl) aO))) aO)))))) (bR (ki (K1 (zwu K rfl hr.units) (pv 1) (qQ (az aW (az (jH (az (bj Pb aW (bj tI (pv 0) aW)) (az aW aO))) (az (jH (az (jH (az aW (az aW aO))) (az (jH (az aW (az aW aO))) aO))) aO)))) (iq _)))))))),?_⟩;show c9 _ _ _ [some (.int n),none,none] H;walk_at"s";intro l fl;refine hR _ _ ?_;clear hR;have sl:=dZ (o:=.lst []) fl;have hl:aB H l (.lst []) l=some (.lst []):=bh;generalize aB H l (.lst [])=H1 at sl hl⊢;have t0:=bZ n (show(12:Int)≠0 by decide);have t1:=bM n (show(0:Int)<12 by decide);walk_at"s";intro p f p1 f1 p2 f2;obtain⟨wg,sm⟩:=Kc (q1:=(3,n % 12,4,5)) (q2:=(2,0,1,1)) p f p1 f1 p2 f2;have bd:=IX (q1:=(3,n % 12,4,5)) (q2:=(2,0,1,1)) (by unfold Sw.oO;dsimp only;omega) (by unfold Sw.oO;dsimp only;omega);refine⟨p2,_,_,rfl,wg,by show 2<=10000;decide,fun z=>absurd z (by rw[bd];simp),fun m hm e d H2 s2 he hd=>⟨e,rfl,cA,he,T.uO.Hr,?_⟩⟩;rw[bd]at hm;cases hm
  have s2:=sm.trans s2;have xN:=s2 _ _ hl;refine⟨.inl ⟨rfl,_,.of xN⟩,Me rfl ⟨d,false,he,hd⟩ T.iK T.qz rfl ⟨l,_,_,rfl,rfl,xN,F5 (by decide),hR _ _ ?_⟩⟩;clear hR;have sA:aQ H (aB H2 l (.lst ([]++[.int 1]))):=fun b o e=>by rw[bw (gq e fl)];exact s2 _ _ (sl _ _ e)
  have hl:aB H2 l (.lst ([]++[.int 1])) l=some (.lst [.int 1]):=bh;clear wg bd sm s2 xN he hd;generalize aB H2 l (.lst ([]++[.int 1]))=H3 at sA hl⊢;walk_at"s";refine Fq fun e x pm H4 sm he hx hm=>⟨e,rfl,dC,he,T.wY.Hr,.inl ⟨rfl,_,.of (sm _ _ hl)⟩,Me rfl ⟨x,false,he,hx⟩ T.jQ T.oV rfl ⟨l,_,_,rfl,rfl,sm _ _ hl,F5 (by decide),hR _ _ ?_⟩⟩;clear hR;have sB:aQ H (aB H4 l (.lst ([.int 1]++[.ref pm]))):=fun b o e=>by rw[bw (gq e fl)];exact sm _ _ (sA _ _ e)
  have Ic:aB H4 l (.lst ([.int 1]++[.ref pm])) pm=some (.tup (fq ((1000-n % 1000:Int):Rat))):=by rw[bw (bQ hm (sm _ _ hl) (by intro z;cases z))];exact hm
  have GF:aB H4 l (.lst ([.int 1]++[.ref pm])) l=some (.lst [.int 1,.ref pm]):=bh;clear he hx hm sm;generalize aB H4 l (.lst ([.int 1]++[.ref pm]))=H5 at sB Ic GF⊢;walk_at"s";refine Ft (r1:=1) (r2:=⟨1,2,by decide,by decide⟩) rfl rfl (Sw.fM.int (z:=99) (n:=1) (Sw.Sz.one _)) (Sw.fM.mono (m:=3) ⟨by show(1:Int).natAbs<8;decide,by show(2:Int).natAbs<8;decide⟩ (by decide)) (by decide+kernel) fun e d pa pg H6 sm he hd Qa oY=>⟨e,rfl,dG,he,T.sE.Hr,?_⟩;refine⟨.inl ⟨rfl,_,.of (sm _ _ GF)⟩,Me rfl ⟨d,false,he,hd⟩ T.fY T.oW rfl (Me rfl ⟨d,false,he,hd⟩ T.fY T.oX rfl fun p f=>⟨l,_,_,rfl,rfl,dZ f _ _ (sm _ _ GF),F5 (by show 2<=1000000;decide),hR _ _ ?_⟩)⟩;clear hR;have s7:=dZ (o:=.tup [.ref pa,.ref pg]) f;have kt:∀b xs,aB H6 p (.tup [.ref pa,.ref pg]) b=some (.tup xs)->aB (aB H6 p (.tup [.ref pa,.ref pg])) l (.lst ([.int 1,.ref pm]++[.ref p])) b=some (.tup xs):=fun b xs e=>by rw[bw (bQ e (s7 _ _ (sm _ _ GF)) (by intro z;cases z))];exact e
  have sC:aQ H (aB (aB H6 p (.tup [.ref pa,.ref pg])) l (.lst ([.int 1,.ref pm]++[.ref p]))):=fun b o e=>by rw[bw (gq e fl)];exact s7 _ _ (sm _ _ (sB _ _ e))
  have h1:=kt _ _ (s7 _ _ (sm _ _ Ic));have h2:=kt _ _ (s7 _ _ Qa);have h3:=kt _ _ (s7 _ _ oY);have h4:=kt p _ bh;have h5:aB (aB H6 p (.tup [.ref pa,.ref pg])) l (.lst ([.int 1,.ref pm]++[.ref p])) l=some (.lst [.int 1,.ref pm,.ref p]):=bh;generalize aB (aB H6 p (.tup [.ref pa,.ref pg])) l (.lst ([.int 1,.ref pm]++[.ref p]))=H7 at sC h1 h2 h3 h4 h5⊢;rw[show fq ((1000-n % 1000:Int):Rat)=[.int (1000-n % 1000),.int 1]from(Uy ..).symm]at h1;rw[show fq ((1:Rat)+((⟨1,2,by decide,by decide⟩:Rat)+0))=[.int 3,.int 2]by rw[show((1:Rat)+((⟨1,2,by decide,by decide⟩:Rat)+0))=⟨3,2,by decide,by decide⟩by decide+kernel];rfl]at h2
  rw[show fq (1:Rat)=[.int 1,.int 1]from rfl]at h3;clear kt s7 sm he hd Qa oY f Ic GF hl sA sB;walk_at"rd";intro q1 g1 q2 g2 q3 g3 q4 g4 q5 g5;have u1:=dZ (o:=.tup [.int (1000-n % 1000),.int 1]) g1;have u2:=dZ (o:=.tup [.int 3,.int 2]) g2;have u3:=dZ (o:=.tup [.int 1,.int 1]) g3;have u4:=dZ (o:=.tup [.ref q2,.ref q3]) g4;have u5:=dZ (o:=.lst [.int 1,.ref q1,.ref q4]) g5;have u:=(((u1.trans u2).trans u3).trans u4).trans u5;have two:∀{H:Hp}{q:Addr}{a b:Int},H q=some (.tup [.int a,.int b])->mF K H (.ref q) (.tuple [.int a,.int b]):=fun h=>.tup (.of h) (.cons (.int _) (.cons (.int _) .nil));exact zwv (d:=.list [.int 1,.tuple [.int (1000-n % 1000),.int 1],.tuple [.tuple [.int 3,.int 2],.tuple [.int 1,.int 1]]]) (.lst (.of (u _ _ h5)) (.cons (.int _) (.cons (two (u _ _ h1)) (.cons (.tup (.of (u _ _ h4)) (.cons (two (u _ _ h2)) (.cons (two (u _ _ h3)) .nil))) .nil)))) (.lst (.of bh) (.cons (.int _) (.cons (two (u5 _ _ (u4 _ _ (u3 _ _ (u2 _ _ bh))))) (.cons (.tup (.of (u5 _ _ bh)) (.cons (two (u5 _ _ (u4 _ _ (u3 _ _ bh)))) (.cons (two (u5 _ _ (u4 _ _ bh))) .nil))) .nil)))) rfl (k _ (sC.trans u))
theorem zxs:∀i:Nat,i<16->(Bt i++[true]).length=17/\(Bt i++[true])[i]?=some true/\((Bt i++[true]).filter id).length=2:=by decide
theorem zzk{f:Addr}{fd:FuncData}(F:EU K "law" "law" nZ f fd)(T:Txt K mg dI cW cO cQ dE cI cV cX cJ cK dF dA cY cA dC dG cG cD cH cF dD dB cZ dH):nh P w K mg base HJ 11 f fd ["_law_script"] (zN K):=by
 have kG:=Xm P w base T;have wl:=Yg P w base T;have tL:=XE P w base T;refine F.ok yP (fun vs H Q E h=>?_) (fun bL A outer s H vs Q E hr h=>?_)
 ·obtain⟨a,ns,rfl,_⟩:=h;rfl
 ·obtain⟨sc,ns,rfl,hS,gh,k⟩:=h;refine⟨_,(bJ (Mv PassesOwn.never rfl (YI rfl T.Cz (az aW aO)) (Ac (i:=1) yP.nd rfl (by first|left;rfl|right;rfl)) (bJ (jR (i:=2) yP.nd rfl (gE wl (hr.mono (by decide)) rfl eo (az (pv 1) (az (bj tI (gE kG (hr.mono (by decide)) rfl eo (az (pv 0) (az (pv 1) aO))) (bj Lc aW aW)) aO)))) (bR (bC (PW.pt (pw_or (iw Um (pv 2) xE (iq _)) (pw_or (iw w6 (oJ (OD K rfl) rfl T.sJ boot_len (az (sN ["_law_one"] [] rfl (by with_unfolding_all rfl) (by decide+kernel) rfl (by decide+kernel) (by exact bB) (by with_unfolding_all rfl) bB (Iu K rfl (pv 2)) (fun _ _ _=>(Ac (i:=0) (show(["_law_one"]:List Str).Nodup from by decide+kernel) rfl (by first|left;rfl|right;rfl))) (fun _ _ _=>(Tf (Bd (pv 0)))) (fun _ _ _=>(pv 0))) aO)) aW (iq _)) (pw_or (Be (Bd (bE (DH K rfl) (pv 2) (pv 1) (fun _ _=>rfl)))) (Mt (Be (Bd (bE (DH K rfl) (pv 2) (zH Mw aW) (fun _ _=>rfl))))))))) (bR (ki JW)) gX)))) (bR (ki (gE tL (hr.mono (by decide)) rfl eo (az (bj tI (gE kG (hr.mono (by decide)) rfl eo (az (pv 0) (az aW aO))) (bj Lc aW aW)) aO))))),?_⟩;show c9 _ _ _ [some (.ref sc),none,none] H;refine bU fun R hR=>?_;refine OM fun Z hZ=>?_;walk_at"rd";refine hZ _ _ ?_;refine YK (lo:=0) (n:=16) (fun i σ H'=>(∃v1 v2,σ=[some (.ref sc),v1,v2])/\aQ H H') ⟨⟨none,none,rfl⟩,aQ.refl _⟩ ?_ ?_
  ·rintro i σ H1 hi ⟨⟨v1,v2,rfl⟩,s1⟩;have M4:=s1.seq hS;simp only[L2.rS,jD,jE,Int.zero_add];refine bU fun R2 E9=>?_;walk_at"rd";refine SE M4 (by omega) ⟨_,rfl,?_⟩;have c0:=bZ (nE ns (i:Int)) (show(1000000000000:Int)≠0 by decide);have c1:=bM (nE ns (i:Int)) (show(0:Int)<1000000000000 by decide);refine⟨i,_,rfl,hi,c0,c1,fun p H2 s2 hl=>E9 _ _ ?_⟩;clear E9;have s3:=s1.trans s2;have kl:=zxs i hi;refine O7 fun R3 Vs=>?_;walk_at"rd";refine⟨⟨_,.of hl⟩,fun D hD=>?_⟩;refine L6 (xs:=(Bt i++[true]).map V.bl) (fun m τ H'=>(∃v,τ=[v])/\aQ H2 H'/\H' D=some (.lst ((((Bt i++[true]).take m).filter id).map V.bl))) ⟨⟨none,rfl⟩,dZ hD,bh⟩ (fun m τ H' _ h=>.of (h.2.1 _ _ hl)) ?_ ?_
   ·rintro m x τ H3 hx ⟨⟨v,rfl⟩,sm,v9⟩;obtain⟨b,hb,rfl⟩:∃b,(Bt i++[true])[m]?=some b/\V.bl b=x:=by
     rw[dO]at hx;cases e:(Bt i++[true])[m]? with
     |none=>rw[e]at hx;cases hx
     |some b=>rw[e]at hx;exact⟨b,rfl,aK hx⟩
    rw[Ou hb,jz];walk_at"rd";have ln:(List.filter id (List.take m (Bt i++[true]))).length<=17:=bf (ir ..) (by rw[eZ,kl.1];exact Nat.min_le_right ..);cases b with
    |false=>
     rw[if_neg (by decide)];refine⟨sm,?_⟩;rw[show List.filter id [false]=[]from rfl,aN];exact v9
    |true=>
     rw[if_pos rfl];refine⟨_,v9,F5 (by rw[aj];omega),fun b o e=>?_,?_⟩
     ·rw[bw (gq e hD)];exact sm _ _ e
     ·rw[bh,aC];rfl
   ·rintro τ H3 ⟨_,sm,v9⟩;rw[aj,kE]at v9;have P6:=sm _ _ hl;refine Us (.of v9) ⟨rfl,?_⟩;rw[aj,kl.2.2,if_pos (show V.int ((2:Nat):Int)=V.int 2 from rfl)];refine Bf (.of P6) (v:=.bl true) (Mi (by rw[dO,kl.2.1];rfl)) ⟨true,rfl,?_⟩;rw[if_neg (by decide)];refine Bf (.of P6) (v:=.bl true) (by rw[aC];exact Zh ..) ⟨true,rfl,?_⟩;rw[if_neg (by decide)];exact Vs _ _ ⟨⟨_,_,rfl⟩,s3.trans sm⟩
  ·rintro σ H1 ⟨⟨v1,v2,rfl⟩,s1⟩;have M4:=s1.seq hS;refine hR _ _ ?_;walk_at"rd";exact SE M4 (by decide) ⟨_,rfl,_,rfl,bZ _ (by decide),bM _ (by decide),fun H' _=>k H'⟩
end
theorem all_mk{l:rK}{w:World}{K:aa}{h:Heap}{mg:Str->Option Value}{fa f qa qb qc qd qe qf qg qh qi qj qk ql qm qn qo qp qr qs qt qu qv qw qx qy:Addr}(X:K.In h)(G:h.Ns mainGlobals mg)(Vy:mg "law"=some (.ref fa)){od an:Option Addr}{sl:Array (Option Value)}{oc kV dc pm cd ct:Value}(a:kr K mainGlobals "law"=some (some (.ref f)))(lk:K.lookup f=some ⟨oc,od,.func (aT "law" "law" (tH nZ) (lY nZ) (b8 nZ) .none kV dc pm an cd ct),sl⟩)(c:bD K cd "law"=true)(k:ay K (.ref f)=true)(T:Txt K mg qa qb qc qd qe qf qg qh qi qj qk ql qm qn qo qp qr qs qt qu qv qw qx qy):∃fd:FuncData,(∀(s:Shared)(v:Value),BindsTo s fd ⟨[v],[]⟩ [("_law_script",v)])/\∀base:Heap,K.In base->base.Ns mainGlobals mg->nh l.prog w K mg base HJ 11 fa fd ["_law_script"] (zN K):=by
  have e:=Vy.symm.trans (bO X G a);cases e
  exact⟨aT "law" "law" (tH nZ) (lY nZ) (b8 nZ) .none kV dc pm an cd ct,fun s v=>.of_eq rfl,fun base _ _=>zzk _ _ _ (F6 (st:=nZ) lk c k) T⟩
theorem walk{l:rK}{q:Program}{uJ:List Str}{XP:(Str->Option Value)->Heap->Prop}{YP:World->Heap->Prop}{d:DefRec}{K:Params->aa}(hn:l.most=some 63)(Jq:d.params.defaults=[])(hY:∀(w:World)(h:Heap),YP w h->(K w.params).In h)(F:∀(w:World)(mg:Str->Option Value)(fa:Addr)(h:Heap),(K w.params).In h->h.Ns mainGlobals mg->mg d.name=some (.ref fa)->
      ∃fd:FuncData,(∀(s:Shared)(u:Value),BindsTo s fd ⟨[u],[]⟩ [("_law_script",u)])/\∀base:Heap,(K w.params).In base->base.Ns mainGlobals mg->nh l.prog w (K w.params) mg base HJ 11 fa fd ["_law_script"] (zN (K w.params))):
    EY q uJ XP YP l.row.toRowW d [] (fun f vs=>BQ f vs):=
  L2.EN (n:=63) (k:=11) (x:="_law_script") (CX:=fun _=>HJ) (sp:=fun w=>zN (K w.params)) hn (by decide) Jq ⟨rfl,by decide,by decide⟩ hY F (fun _ _ a ns hl _ hS=>⟨a,ns,rfl,hS,hl,fun _=>rfl⟩) fun _ _ _ _ _ z=>z
end K75
open PySem PySem.W PyProof.Rows
set_option maxRecDepth 100000 in
set_option maxHeartbeats 0 in
theorem PySem.Challenge.cw_sharewheel_k75_each_refusal_by_itself_holds : PySem.Challenge.rw_sharewheel_k75_each_refusal_by_itself.Holds := by
  refine hd ?_
  k_fill
  refine K75.walk (l:=PySem.Challenge.rw_sharewheel_k75_each_refusal_by_itself) rfl rfl (fun w h Y=>PySem.W.kIn_of Y) ?F
  case F =>
    intro w mg fa h KX G Ju
    refine' K75.all_mk KX G Ju ?a ?l ?c ?k ?T
    (case a=>k_is)
    (case l=>k_is)
    (case c=>k_is)
    (case k=>k_is)
    case T =>
      apply K75.Txt.mk
      iterate 13 ((·(refine' bO KX G ?_;k_is));(·(refine' L2.KP ?a ?b ?c ?d ?e ?f ?g ?h ?i ?j;(case a=>k_is);(case b=>k_is);(case c=>k_is);(case d=>k_is);(case e=>k_is);(case f=>k_is);(case g=>k_is);(case h=>k_is);(case i=>k_is);(case j=>k_exc)));(· k_is);(· k_exc))
      ·(refine' bO KX G ?_;k_is)
      ·(refine' L2.vU ?a ?b ?c ?d ?e ?f ?g ?h ?i ?l ?j;(case a=>k_is);(case b=>k_is);(case c=>k_is);(case d=>k_is);(case e=>k_is);(case f=>k_is);(case g=>k_is);(case h=>k_is);(case i=>k_is);(case l=>k_is);(case j=>k_exc))
      · k_is
      ·(refine' bO KX G ?_;k_is)
      ·(refine' L2.vU ?a ?b ?c ?d ?e ?f ?g ?h ?i ?l ?j;(case a=>k_is);(case b=>k_is);(case c=>k_is);(case d=>k_is);(case e=>k_is);(case f=>k_is);(case g=>k_is);(case h=>k_is);(case i=>k_is);(case l=>k_is);(case j=>k_exc))
      · k_is
      ·(refine' bO KX G ?_;k_is)
      ·(refine' L2.vU ?a ?b ?c ?d ?e ?f ?g ?h ?i ?l ?j;(case a=>k_is);(case b=>k_is);(case c=>k_is);(case d=>k_is);(case e=>k_is);(case f=>k_is);(case g=>k_is);(case h=>k_is);(case i=>k_is);(case l=>k_is);(case j=>k_exc))
      · k_is
      ·(refine' bO KX G ?_;k_is)
      ·(refine' L2.vU ?a ?b ?c ?d ?e ?f ?g ?h ?i ?l ?j;(case a=>k_is);(case b=>k_is);(case c=>k_is);(case d=>k_is);(case e=>k_is);(case f=>k_is);(case g=>k_is);(case h=>k_is);(case i=>k_is);(case l=>k_is);(case j=>k_exc))
      · k_is
      ·(refine' L2.vq ?a ?l ?t ?c ?k ?b;(case a=>k_is);(case l=>k_is);(case t=>k_is);(case c=>k_is);(case k=>k_is);(case b=>first|exact fun _ _ _ _ _ _=>L2.v8 fun _ _=>rfl))
      iterate 2 (· k_is)
      ·(refine' L2.vq ?a ?l ?t ?c ?k ?b;(case a=>k_is);(case l=>k_is);(case t=>k_is);(case c=>k_is);(case k=>k_is);(case b=>first|exact fun _ _ _ _ _ _=>L2.v8 fun _ _=>rfl))
      iterate 2 (· k_is)
      ·(refine' L2.vq ?a ?l ?t ?c ?k ?b;(case a=>k_is);(case l=>k_is);(case t=>k_is);(case c=>k_is);(case k=>k_is);(case b=>first|exact fun _ _ _ _ _ _=>L2.xM fun _ _ _=>rfl))
      iterate 4 (· k_is)
      ·(refine' L2.vq ?a ?l ?t ?c ?k ?b;(case a=>k_is);(case l=>k_is);(case t=>k_is);(case c=>k_is);(case k=>k_is);(case b=>first|exact fun _ _ _ _ _ _=>L2.v8 fun _ _=>rfl))
      iterate 2 (· k_is)
      iterate 16 (·(refine' L2.JL ?a ?b ?c;(case a=>k_is);(case b=>k_is);(case c=>rfl)))
      · decide
      iterate 14 (·(refine' PySem.W.mg_none_of KX G ?_;k_is))
      iterate 12 (·(refine' L2.BY KX G ?a;(case a=>k_is)))
      ·(refine' L2.HA KX G ?a ?w;(case a=>k_is);(case w=>k_is))
      iterate 3 (·(refine' L2.BY KX G ?a;(case a=>k_is)))
      iterate 35 (·(refine' L2.Hq KX G ?a ?l ?c ?k ?b;(case a=>k_is);(case l=>k_is);(case c=>k_is);(case k=>k_is);(case b=>first|exact fun _ _ _ _ _ _=>L2.yg fun _=>rfl|exact fun _ _ _ _ _ _=>L2.v8 fun _ _=>rfl|exact fun _ _ _ _ _ _=>L2.xM fun _ _ _=>rfl)))
      ·(refine' bO KX G ?_;k_is)
      ·(refine' ⟨?a,?b,?c,?d⟩;(case a=>k_is);(case b=>k_is);(case c=>k_is);(case d=>k_is))
      iterate 4 (·(show ai _ _ _ = _;k_is))
      ·(refine' L2.GR ?a ?f ?l ?c ?e ?b ?m ?n;(case a=>k_is);(case f=>k_is);(case l=>k_is);(case c=>k_is);(case e=>k_is);(case m=>k_is);(case n=>k_is);(case b=>intro fd hf;subst hf;exact ⟨fun us hl=>match us,(show us.length = 4 from hl) with|[_,_,_,_],_=>⟨_,rfl,rfl⟩,fun us hl=>match us,(show us.length = 3 by simpa using hl) with|[_,_,_],_=>⟨_,rfl,rfl⟩⟩))
      iterate 2 (·(refine' L2.pP ?a ?f ?l ?c ?k ?b;(case a=>k_is);(case f=>k_is);(case l=>k_is);(case c=>k_is);(case k=>k_is);(case b=>first|exact fun _ _ _ _ _ _=>L2.yg fun _=>rfl|exact fun _ _ _ _ _ _=>L2.v8 fun _ _=>rfl|exact fun _ _ _ _ _ _=>L2.xM fun _ _ _=>rfl|exact fun _ _ _ _ _ _=>L2.zv fun _ _ _ _=>rfl|exact fun _ _ _ _ _ _=>L2.Av fun _ _ _ _ _ _=>rfl)))
      ·(refine' bO KX G ?_;k_is)
      ·(refine' ⟨?a,?b,?c,?d⟩;(case a=>k_is);(case b=>k_is);(case c=>k_is);(case d=>k_is))
      ·(show ai _ _ _ = _;k_is)
      ·(refine' L2.in_of ?a ?f ?l ?c ?k ?b ?m ?n;(case a=>k_is);(case f=>k_is);(case l=>k_is);(case c=>k_is);(case k=>k_is);(case m=>k_is);(case n=>k_is);(case b=>first|exact fun _ _ _ _ _ _=>L2.yg fun _=>rfl|exact fun _ _ _ _ _ _=>L2.v8 fun _ _=>rfl|exact fun _ _ _ _ _ _=>L2.xM fun _ _ _=>rfl|exact fun _ _ _ _ _ _=>L2.zv fun _ _ _ _=>rfl|exact fun _ _ _ _ _ _=>L2.Av fun _ _ _ _ _ _=>rfl))
      iterate 8 (·(refine' L2.pP ?a ?f ?l ?c ?k ?b;(case a=>k_is);(case f=>k_is);(case l=>k_is);(case c=>k_is);(case k=>k_is);(case b=>first|exact fun _ _ _ _ _ _=>L2.yg fun _=>rfl|exact fun _ _ _ _ _ _=>L2.v8 fun _ _=>rfl|exact fun _ _ _ _ _ _=>L2.xM fun _ _ _=>rfl|exact fun _ _ _ _ _ _=>L2.zv fun _ _ _ _=>rfl|exact fun _ _ _ _ _ _=>L2.Av fun _ _ _ _ _ _=>rfl)))
      iterate 2 (·(refine' bO KX G ?_;k_is))
      ·(refine' ⟨?a,?b,?c,?d⟩;(case a=>k_is);(case b=>k_is);(case c=>k_is);(case d=>k_is))
      iterate 6 (·(show ai _ _ _ = _;k_is))
      ·(refine' L2.in_of ?a ?f ?l ?c ?k ?b ?m ?n;(case a=>k_is);(case f=>k_is);(case l=>k_is);(case c=>k_is);(case k=>k_is);(case m=>k_is);(case n=>k_is);(case b=>first|exact fun _ _ _ _ _ _=>L2.yg fun _=>rfl|exact fun _ _ _ _ _ _=>L2.v8 fun _ _=>rfl|exact fun _ _ _ _ _ _=>L2.xM fun _ _ _=>rfl|exact fun _ _ _ _ _ _=>L2.zv fun _ _ _ _=>rfl|exact fun _ _ _ _ _ _=>L2.Av fun _ _ _ _ _ _=>rfl))
      iterate 3 (·(refine' L2.pP ?a ?f ?l ?c ?k ?b;(case a=>k_is);(case f=>k_is);(case l=>k_is);(case c=>k_is);(case k=>k_is);(case b=>first|exact fun _ _ _ _ _ _=>L2.yg fun _=>rfl|exact fun _ _ _ _ _ _=>L2.v8 fun _ _=>rfl|exact fun _ _ _ _ _ _=>L2.xM fun _ _ _=>rfl|exact fun _ _ _ _ _ _=>L2.zv fun _ _ _ _=>rfl|exact fun _ _ _ _ _ _=>L2.Av fun _ _ _ _ _ _=>rfl)))
      ·(refine' L2.FZ ?a ?l ?c ?r ?f ?g ?k ?b;(case a=>k_is);(case l=>k_is);(case c=>k_is);(case r=>k_is);(case f=>k_is);(case g=>k_is);(case k=>k_is);(case b=>first|exact fun _ _ _ _ _ _=>L2.yg fun _=>rfl|exact fun _ _ _ _ _ _=>L2.v8 fun _ _=>rfl|exact fun _ _ _ _ _ _=>L2.xM fun _ _ _=>rfl|exact fun _ _ _ _ _ _=>L2.zv fun _ _ _ _=>rfl|exact fun _ _ _ _ _ _=>L2.Av fun _ _ _ _ _ _=>rfl))
      iterate 7 (·(refine' L2.pP ?a ?f ?l ?c ?k ?b;(case a=>k_is);(case f=>k_is);(case l=>k_is);(case c=>k_is);(case k=>k_is);(case b=>first|exact fun _ _ _ _ _ _=>L2.yg fun _=>rfl|exact fun _ _ _ _ _ _=>L2.v8 fun _ _=>rfl|exact fun _ _ _ _ _ _=>L2.xM fun _ _ _=>rfl|exact fun _ _ _ _ _ _=>L2.zv fun _ _ _ _=>rfl|exact fun _ _ _ _ _ _=>L2.Av fun _ _ _ _ _ _=>rfl)))
      ·(refine' bO KX G ?_;k_is)
      ·(refine' ⟨?a,?b,?c,?d⟩;(case a=>k_is);(case b=>k_is);(case c=>k_is);(case d=>k_is))
      iterate 6 (·(show ai _ _ _ = _;k_is))
      ·(refine' L2.in_of ?a ?f ?l ?c ?k ?b ?m ?n;(case a=>k_is);(case f=>k_is);(case l=>k_is);(case c=>k_is);(case k=>k_is);(case m=>k_is);(case n=>k_is);(case b=>first|exact fun _ _ _ _ _ _=>L2.yg fun _=>rfl|exact fun _ _ _ _ _ _=>L2.v8 fun _ _=>rfl|exact fun _ _ _ _ _ _=>L2.xM fun _ _ _=>rfl|exact fun _ _ _ _ _ _=>L2.zv fun _ _ _ _=>rfl|exact fun _ _ _ _ _ _=>L2.Av fun _ _ _ _ _ _=>rfl))
      iterate 4 (·(refine' L2.pP ?a ?f ?l ?c ?k ?b;(case a=>k_is);(case f=>k_is);(case l=>k_is);(case c=>k_is);(case k=>k_is);(case b=>first|exact fun _ _ _ _ _ _=>L2.yg fun _=>rfl|exact fun _ _ _ _ _ _=>L2.v8 fun _ _=>rfl|exact fun _ _ _ _ _ _=>L2.xM fun _ _ _=>rfl|exact fun _ _ _ _ _ _=>L2.zv fun _ _ _ _=>rfl|exact fun _ _ _ _ _ _=>L2.Av fun _ _ _ _ _ _=>rfl)))
      ·(refine' L2.FZ ?a ?l ?c ?r ?f ?g ?k ?b;(case a=>k_is);(case l=>k_is);(case c=>k_is);(case r=>k_is);(case f=>k_is);(case g=>k_is);(case k=>k_is);(case b=>first|exact fun _ _ _ _ _ _=>L2.yg fun _=>rfl|exact fun _ _ _ _ _ _=>L2.v8 fun _ _=>rfl|exact fun _ _ _ _ _ _=>L2.xM fun _ _ _=>rfl|exact fun _ _ _ _ _ _=>L2.zv fun _ _ _ _=>rfl|exact fun _ _ _ _ _ _=>L2.Av fun _ _ _ _ _ _=>rfl))
      iterate 6 (·(refine' L2.pP ?a ?f ?l ?c ?k ?b;(case a=>k_is);(case f=>k_is);(case l=>k_is);(case c=>k_is);(case k=>k_is);(case b=>first|exact fun _ _ _ _ _ _=>L2.yg fun _=>rfl|exact fun _ _ _ _ _ _=>L2.v8 fun _ _=>rfl|exact fun _ _ _ _ _ _=>L2.xM fun _ _ _=>rfl|exact fun _ _ _ _ _ _=>L2.zv fun _ _ _ _=>rfl|exact fun _ _ _ _ _ _=>L2.Av fun _ _ _ _ _ _=>rfl)))
      ·(refine' bO KX G ?_;k_is)
      ·(refine' ⟨?a,?b,?c,?d⟩;(case a=>k_is);(case b=>k_is);(case c=>k_is);(case d=>k_is))
      iterate 5 (·(show ai _ _ _ = _;k_is))
      ·(refine' L2.yw (items:=#[.none]) ?a ?f ?l ?c ?e ?b ?m ?n;(case a=>k_is);(case f=>k_is);(case l=>k_is);(case c=>k_is);(case e=>k_is);(case m=>k_is);(case n=>k_is);(case b=>intro fd hf dX h;subst hf;simp only [ah,eG,or_false] at h;rcases h with rfl|rfl <;> first|exact ⟨[],.nil,fun us hl=>match us,(show us.length = 4 by simpa using hl) with|[_,_,_,_],_=>⟨_,rfl,rfl⟩⟩|exact ⟨[.none],(.cons rfl .nil),fun us hl=>match us,(show us.length = 3 by simpa using hl) with|[_,_,_],_=>⟨_,rfl,rfl⟩⟩))
      ·(refine' bO KX G ?_;k_is)
      ·(refine' ⟨?a,?b,?c,?d⟩;(case a=>k_is);(case b=>k_is);(case c=>k_is);(case d=>k_is))
      iterate 6 (·(show ai _ _ _ = _;k_is))
      ·(refine' L2.GS ?a ?f ?l ?c ?e ?b ?m ?n;(case a=>k_is);(case f=>k_is);(case l=>k_is);(case c=>k_is);(case e=>k_is);(case m=>k_is);(case n=>k_is);(case b=>intro fd hf;subst hf;exact ⟨fun us hl=>match us,(show us.length = 3 from hl) with|[_,_,_],_=>⟨_,rfl,rfl⟩,fun us hl=>match us,(show us.length = 2 by simpa using hl) with|[_,_],_=>⟨_,rfl,rfl⟩⟩))
      iterate 3 (·(refine' L2.pP ?a ?f ?l ?c ?k ?b;(case a=>k_is);(case f=>k_is);(case l=>k_is);(case c=>k_is);(case k=>k_is);(case b=>first|exact fun _ _ _ _ _ _=>L2.yg fun _=>rfl|exact fun _ _ _ _ _ _=>L2.v8 fun _ _=>rfl|exact fun _ _ _ _ _ _=>L2.xM fun _ _ _=>rfl|exact fun _ _ _ _ _ _=>L2.zv fun _ _ _ _=>rfl|exact fun _ _ _ _ _ _=>L2.Av fun _ _ _ _ _ _=>rfl)))
      ·(refine' L2.GV (items:=#[.none]) ?a ?f ?l ?c ?k ?e ?b;(case a=>k_is);(case f=>k_is);(case l=>k_is);(case c=>k_is);(case k=>k_is);(case e=>k_is);(case b=>intro fd hf dX h;subst hf;simp only [ah,eG,or_false] at h;rcases h with rfl|rfl <;> first|exact ⟨[],.nil,fun us hl=>match us,(show us.length = 6 by simpa using hl) with|[_,_,_,_,_,_],_=>⟨_,rfl,rfl⟩⟩|exact ⟨[.none],(.cons rfl .nil),fun us hl=>match us,(show us.length = 5 by simpa using hl) with|[_,_,_,_,_],_=>⟨_,rfl,rfl⟩⟩))
      iterate 9 (·(refine' L2.pP ?a ?f ?l ?c ?k ?b;(case a=>k_is);(case f=>k_is);(case l=>k_is);(case c=>k_is);(case k=>k_is);(case b=>first|exact fun _ _ _ _ _ _=>L2.yg fun _=>rfl|exact fun _ _ _ _ _ _=>L2.v8 fun _ _=>rfl|exact fun _ _ _ _ _ _=>L2.xM fun _ _ _=>rfl|exact fun _ _ _ _ _ _=>L2.zv fun _ _ _ _=>rfl|exact fun _ _ _ _ _ _=>L2.Av fun _ _ _ _ _ _=>rfl)))
