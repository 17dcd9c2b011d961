import PyProof.Rows.All
import Wide.All
import OpenK.AllK
import Wide.FinOn
import KE.KNestM
import HandS.EndTab
import HandS.ForMost
import HandS.IsInst
import HandS.Wide
import HandS.Lambda
import KE.SortData
import KE.SortKeyHeap
import HandS.ExcCtx
import PyProof.ReprRoads
import PyProof.StrOps2
import HandS.Property
import KE.GoesEnum
import KE.GoesMore
import KE.KLam
import HandS.Style
import HandS.Defaults
import HandS.ClsMeth
import HandS.ForDict
import KE.KCallOwn
import KE.KFmtOwn
import PyProof.Conv_bool
import HandS.MakeKw
import HandS.FStr
import PyProof.Rows.StrIntSpec
import PyProof.Rows.ReprOcc
import PyProof.ReprText
import HandS.Star
import HandS.TupAny
import HandS.GenList
import KE.DatumOrd
import HandS.SortKw
import HandS.More
import HandS.TryOnly
import OpenK.KMore
import HandS.Set
import HandS.Zip
import HandS.Rev
import HandS.Strs
import PyProof.ListRange
import PyProof.LongRange
import OpenK.KLaw
import HandS.ExcInit
import HandS.HotCalls
import KE.KExcSuper
import KE.KSuper
import KE.KExcInit
import HandS.Flow
import KE.KDictPairs
import KE.KDictZip
import HandS.Deep
import HandS.Iter
import HandS.TupLe
import HandS.CallSlots
import KE.KTryMore
import KE.KExcIs
import HandS.ExcField
import HandS.ExcIs
import HandS.CallLocal
import HandS.SetFor
import HandS.SuiteRaise
import HandS.RaiseFrom
import PySem.Challenge.RW_seatchains_k04_texts_that_are_none
set_option Elab.async false
section
open PySem PySem.W PyProof.Rows
def PySem.W.Fast.tw16973667070273397060 : Nat := 0
def PySem.W.Fast.tw3684606548653316960 : Nat := 0
def PySem.W.Fast.tw1712479107676522544 : Nat := 0
def PySem.W.Fast.tw12263359368641983180 : Nat := 0
def PySem.W.Fast.tw13832784052704082637 : Nat := 0
def PySem.W.Fast.tw18149772869110233680 : Nat := 0
def PySem.W.Fast.tw9473995492447117993 : Nat := 0
def PySem.W.Fast.tw9085692845881819786 : Nat := 0
def PySem.W.Fast.tw12395727131697375629 : Nat := 0
def PySem.W.Fast.tw11115944376797093251 : Nat := 0
def PySem.W.Fast.tw2066114946549400760 : Nat := 0
def PySem.W.Fast.tw12556399186132691736 : Nat := 0
def PySem.W.Fast.tw10224866519375112751 : Nat := 0
def PySem.W.Fast.tw1680693993830370494 : Nat := 0
def PySem.W.Fast.tw14895356928395468235 : Nat := 0
def PySem.W.Fast.tw2628589582493757075 : Nat := 0
def PySem.W.Fast.tw12307484990627687105 : Nat := 0
def PySem.W.Fast.tw4645131456120876747 : Nat := 0
def PySem.W.Fast.tw1693816851993103604 : Nat := 0
def PySem.W.Fast.tw10069665341187098620 : Nat := 0
def PySem.W.Fast.tw16836756111266476435 : Nat := 0
def PySem.W.Fast.tw15054413924487208090 : Nat := 0
def PySem.W.Fast.tw7386633349195079290 : Nat := 0
def PySem.W.Fast.tw6649087909563879061 : Nat := 0
def PySem.W.Fast.tw8063810400932310392 : Nat := 0
def PySem.W.Fast.tw10613143841372039615 : Nat := 0
def PySem.W.Fast.tw18287209571739887219 : Nat := 0
def PySem.W.Fast.tw14127010119880943949 : Nat := 0
def PySem.W.Fast.tw4276059777640916449 : Nat := 0
def PySem.W.Fast.tw11369328935716470492 : Nat := 0
def PySem.W.Fast.tw8291232977702553840 : Nat := 0
def PySem.W.Fast.tw8738855492872903126 : Nat := 0
def PySem.W.Fast.tw13431863753089935884 : Nat := 0
def PySem.W.Fast.tw14701477620332312777 : Nat := 0
def PySem.W.Fast.tw15447144807968875006 : Nat := 0
def PySem.W.Fast.tw1455114479139404669 : Nat := 0
def PySem.W.Fast.tw13053498157117020474 : Nat := 0
def PySem.W.Fast.tw14191077664093946123 : Nat := 0
def PySem.W.Fast.tw3812429484569179593 : Nat := 0
def PySem.W.Fast.tw9333599496899506111 : Nat := 0
def PySem.W.Fast.tw11694290055263241531 : Nat := 0
def PySem.W.Fast.tw14467414282564961002 : Nat := 0
def PySem.W.Fast.tw12330433364994921736 : Nat := 0
def PySem.W.Fast.tw2777822170479611152 : Nat := 0
def PySem.W.Fast.tw4518457477138868413 : Nat := 0
def PySem.W.Fast.tw16098405068036422307 : Nat := 0
def PySem.W.Fast.tw8710603272224280949 : Nat := 0
def PySem.W.Fast.tw6618090951334831252 : Nat := 0
def PySem.W.Fast.tw8903900563799666062 : Nat := 0
def PySem.W.Fast.tw11091779707443379365 : Nat := 0
def PySem.W.Fast.tw12944293682571974457 : Nat := 0
def PySem.W.Fast.tw3877691364550268498 : Nat := 0
def PySem.W.Fast.tw1021467153782591210 : Nat := 0
def PySem.W.Fast.tw5445324302381975609 : Nat := 0
def PySem.W.Fast.tw9124746331405657911 : Nat := 0
def PySem.W.Fast.tw6397733158450504659 : Nat := 0
def PySem.W.Fast.tw5298247593709692956 : Nat := 0
def PySem.W.Fast.tw18428077828744112239 : Nat := 0
def PySem.W.Fast.tw6076628471965443268 : Nat := 0
def PySem.W.Fast.tw4203739165650511370 : Nat := 0
def PySem.W.Fast.tw15720030174133344140 : Nat := 0
def PySem.W.Fast.tw14128331018949205024 : Nat := 0
def PySem.W.Fast.tw17930983719431985709 : Nat := 0
def PySem.W.Fast.tw7392398132400612953 : Nat := 0
def PySem.W.Fast.tw17925144795486607248 : Nat := 0
def PySem.W.Fast.tw13253623659685163072 : Nat := 0
def PySem.W.Fast.tw9796995521499313349 : Nat := 0
def PySem.W.Fast.tw8506057863835878593 : Nat := 0
def PySem.W.Fast.tw5954428420382079859 : Nat := 0
def PySem.W.Fast.tw3449438586140536089 : Nat := 0
def PySem.W.Fast.tw7450358036388805076 : Nat := 0
def PySem.W.Fast.tw7882298346688538731 : Nat := 0
def PySem.W.Fast.tw6649094912588299977 : Nat := 0
def PySem.W.Fast.tw4318298912767887465 : Nat := 0
def PySem.W.Fast.tw4062651173942633261 : Nat := 0
def PySem.W.Fast.tw1341593670561182522 : Nat := 0
def PySem.W.Fast.tw7443764331965201684 : Nat := 0
def PySem.W.Fast.tw960171631338953537 : Nat := 0
def PySem.W.Fast.tw14550343613555022785 : Nat := 0
def PySem.W.Fast.tw17291976060094617867 : Nat := 0
def PySem.W.Fast.tw364448309648426000 : Nat := 0
def PySem.W.Fast.tw11724278229867546816 : Nat := 0
def PySem.W.Fast.tw14459288979564215421 : Nat := 0
def PySem.W.Fast.tw11195140759438524010 : Nat := 0
def PySem.W.Fast.tw1460804168424001887 : Nat := 0
def PySem.W.Fast.tw9210842730835080420 : Nat := 0
def PySem.W.Fast.tw6980520371954086538 : Nat := 0
def PySem.W.Fast.tw5893885196495690838 : Nat := 0
def PySem.W.Fast.tw3747031792426342547 : Nat := 0
def PySem.W.Fast.tw16668932293867306921 : Nat := 0
def PySem.W.Fast.tw18428779932582466427 : Nat := 0
def PySem.W.Fast.tw8953460101493307913 : Nat := 0
def PySem.W.Fast.tw17953753830808848395 : Nat := 0
def PySem.W.Fast.tw15514824428301807786 : Nat := 0
def PySem.W.Fast.tw2424587992352076273 : Nat := 0
def PySem.W.Fast.tw12013980052343431561 : Nat := 0
def PySem.W.Fast.tw858375671876962645 : Nat := 0
def PySem.W.Fast.tw9447520694477205095 : Nat := 0
def PySem.W.Fast.tw2927906450963229856 : Nat := 0
def PySem.W.Fast.tw9333419850283192908 : Nat := 0
def PySem.W.Fast.tw6993231152034494469 : Nat := 0
def PySem.W.Fast.tw2143356950616373078 : Nat := 0
def PySem.W.Fast.tw11294612357581022939 : Nat := 0
def PySem.W.Fast.tw6056757348640002356 : Nat := 0
def PySem.W.Fast.tw17544100067744889050 : Nat := 0
def PySem.W.Fast.tw1955409988844125346 : Nat := 0
def PySem.W.Fast.tw7100054788868067668 : Nat := 0
def PySem.W.Fast.tw12313407267517195510 : Nat := 0
def PySem.W.Fast.tw8437689149607040818 : Nat := 0
def PySem.W.Fast.tw17978165440251182342 : Nat := 0
def PySem.W.Fast.tw15242382738928796420 : Nat := 0
def PySem.W.Fast.tw12531529121147617331 : Nat := 0
def PySem.W.Fast.tw13638235014899631859 : Nat := 0
def PySem.W.Fast.tw9335758800759656335 : Nat := 0
def PySem.W.Fast.tw16998417632458517843 : Nat := 0
def PySem.W.Fast.tw3617219522501584856 : Nat := 0
def PySem.W.Fast.tw5643831043969044120 : Nat := 0
def PySem.W.Fast.tw3848579918041822818 : Nat := 0
def PySem.W.Fast.tw12627646545210258749 : Nat := 0
def PySem.W.Fast.tw692412165405818134 : Nat := 0
def PySem.W.Fast.tw2098216210407078123 : Nat := 0
def PySem.W.Fast.tw16959704889267424758 : Nat := 0
def PySem.W.Fast.tw9551982990715286373 : Nat := 0
def PySem.W.Fast.tw5517600364870564545 : Nat := 0
def PySem.W.Fast.tw13385029277073413398 : Nat := 0
def PySem.W.Fast.tw666063804999829970 : Nat := 0
def PySem.W.Fast.tw16797688708101309547 : Nat := 0
def PySem.W.Fast.tw18201509930239815252 : Nat := 0
def PySem.W.Fast.tw3043802033125273666 : Nat := 0
def PySem.W.Fast.tw111564378963990930 : Nat := 0
def PySem.W.Fast.tw13885936863681608518 : Nat := 0
def PySem.W.Fast.tw5569279358268407712 : Nat := 0
def PySem.W.Fast.tw2274442575421317193 : Nat := 0
def PySem.W.Fast.tw16598604943925276603 : Nat := 0
def PySem.W.Fast.tw12570621388307496839 : Nat := 0
def PySem.W.Fast.tw15928143620147721793 : Nat := 0
def PySem.W.Fast.tw3765605508597541201 : Nat := 0
def PySem.W.Fast.tw9919439057575906664 : Nat := 0
def PySem.W.Fast.tw10357516094796575053 : Nat := 0
def PySem.W.Fast.tw5138237151352034144 : Nat := 0
def PySem.W.Fast.tw17730660096017719995 : Nat := 0
def PySem.W.Fast.tw9818986462207820034 : Nat := 0
def PySem.W.Fast.tw7181696218302441814 : Nat := 0
def PySem.W.Fast.tw11608955626892252354 : Nat := 0
def PySem.W.Fast.tw15849221108099747094 : Nat := 0
def PySem.W.Fast.tw9044340620855283656 : Nat := 0
def PySem.W.Fast.tw12085293553376802887 : Nat := 0
def PySem.W.Fast.tw11545889083323811197 : Nat := 0
def PySem.W.Fast.tw2872902505163125006 : Nat := 0
def PySem.W.Fast.tw12467217288364982169 : Nat := 0
def PySem.W.Fast.tw13988856480876348655 : Nat := 0
def PySem.W.Fast.tw5375047825416556317 : Nat := 0
def PySem.W.Fast.tw4704111859003843367 : Nat := 0
def PySem.W.Fast.tw1253908323970556320 : Nat := 0
def PySem.W.Fast.tw17185680582703923224 : Nat := 0
def PySem.W.Fast.tw8780103272813361210 : Nat := 0
def PySem.W.Fast.tw8989384663930953549 : Nat := 0
def PySem.W.Fast.tw9939694017406727574 : Nat := 0
def PySem.W.Fast.tw6928061811557648296 : Nat := 0
def PySem.W.Fast.tw5077174005406530840 : Nat := 0
def PySem.W.Fast.tw5259201111982430172 : Nat := 0
def PySem.W.Fast.tw15900552067262374174 : Nat := 0
def PySem.W.Fast.tw605248899637973190 : Nat := 0
def PySem.W.Fast.tw16865530189182481057 : Nat := 0
def PySem.W.Fast.tw5661479860148204297 : Nat := 0
def PySem.W.Fast.tw16089913479283382615 : Nat := 0
def PySem.W.Fast.tw10437300492386605299 : Nat := 0
def PySem.W.Fast.tw6227262386720008492 : Nat := 0
def PySem.W.Fast.tw15769126629641792280 : Nat := 0
def PySem.W.Fast.tw14640705199942287087 : Nat := 0
def PySem.W.Fast.tw10719734647102666889 : Nat := 0
def PySem.W.Fast.tw17899208378936525945 : Nat := 0
def PySem.W.Fast.tw7522083444139917152 : Nat := 0
def PySem.W.Fast.tw8467982121023792098 : Nat := 0
def PySem.W.Fast.tw1137867286805259509 : Nat := 0
def PySem.W.Fast.tw8977272643781302008 : Nat := 0
def PySem.W.Fast.tw17482392587708794802 : Nat := 0
def PySem.W.Fast.tw17942323538657692376 : Nat := 0
def PySem.W.Fast.tw6207663318541017253 : Nat := 0
def PySem.W.Fast.tw7023814575864386685 : Nat := 0
def PySem.W.Fast.tw8596450216275527257 : Nat := 0
def PySem.W.Fast.tw993222935797779376 : Nat := 0
def PySem.W.Fast.tw13979905606732714723 : Nat := 0
def PySem.W.Fast.tw9622843529680999495 : Nat := 0
def PySem.W.Fast.tw14192770586066451474 : Nat := 0
def PySem.W.Fast.tw9081915114414584804 : Nat := 0
def PySem.W.Fast.tw15773677710296670976 : Nat := 0
def PySem.W.Fast.tw15279755212010587265 : Nat := 0
def PySem.W.Fast.tw5828002043864425793 : Nat := 0
def PySem.W.Fast.tw15456078176376975859 : Nat := 0
def PySem.W.Fast.tw494962270173742981 : Nat := 0
def PySem.W.Fast.tw6836084362077215011 : Nat := 0
def PySem.W.Fast.tw7633104988913282886 : Nat := 0
def PySem.W.Fast.tw443165793727489896 : Nat := 0
def PySem.W.Fast.tw13993891392489798083 : Nat := 0
def PySem.W.Fast.tw4651892772992723378 : Nat := 0
def PySem.W.Fast.tw8929609219076378677 : Nat := 0
def PySem.W.Fast.tw12876263750250295196 : Nat := 0
def PySem.W.Fast.tw16482289810894131675 : Nat := 0
def PySem.W.Fast.tw14533785892759301778 : Nat := 0
def PySem.W.Fast.tw8101934930127620044 : Nat := 0
def PySem.W.Fast.tw11046858022953804718 : Nat := 0
def PySem.W.Fast.tw7387191677006045950 : Nat := 0
def PySem.W.Fast.tw17294378029821498928 : Nat := 0
def PySem.W.Fast.tw4849551354940184333 : Nat := 0
def PySem.W.Fast.tw9157071118618107130 : Nat := 0
def PySem.W.Fast.tw1423457206539912819 : Nat := 0
def PySem.W.Fast.tw15509017025689011910 : Nat := 0
def PySem.W.Fast.tw11253869822464832733 : Nat := 0
def PySem.W.Fast.tw1346510948909904274 : Nat := 0
def PySem.W.Fast.tw10184235947069666899 : Nat := 0
def PySem.W.Fast.tw7439005657925493635 : Nat := 0
def PySem.W.Fast.tw10129506020005918398 : Nat := 0
def PySem.W.Fast.tw18139614619407555567 : Nat := 0
def PySem.W.Fast.tw831801627522117833 : Nat := 0
def PySem.W.Fast.tw10940131647219415595 : Nat := 0
def PySem.W.Fast.tw10647054837453685672 : Nat := 0
def PySem.W.Fast.tw15784443600329541243 : Nat := 0
def PySem.W.Fast.tw16924721108805146479 : Nat := 0
def PySem.W.Fast.tw5239304228828090786 : Nat := 0
def PySem.W.Fast.tw882513965300613439 : Nat := 0
def PySem.W.Fast.tw14114508836579052855 : Nat := 0
def PySem.W.Fast.tw17050864649210679655 : Nat := 0
def PySem.W.Fast.tw11179354100535242379 : Nat := 0
def PySem.W.Fast.tw12473669425709326742 : Nat := 0
def PySem.W.Fast.tw6543673975698334859 : Nat := 0
def PySem.W.Fast.tw5433997043857706392 : Nat := 0
def PySem.W.Fast.tw9452497703906138324 : Nat := 0
def PySem.W.Fast.tw16249168611192716192 : Nat := 0
def PySem.W.Fast.tw11334929324644694986 : Nat := 0
def PySem.W.Fast.tw9782279020115034651 : Nat := 0
def PySem.W.Fast.tw13689091210539726067 : Nat := 0
def PySem.W.Fast.tw5207947927049299407 : Nat := 0
def PySem.W.Fast.tw11802025314486123427 : Nat := 0
def PySem.W.Fast.tw4790980947766048773 : Nat := 0
def PySem.W.Fast.tw9404456210665126769 : Nat := 0
def PySem.W.Fast.tw2878994878709961207 : Nat := 0
def PySem.W.Fast.tw10176316973411673583 : Nat := 0
def PySem.W.Fast.tw18201411731398895985 : Nat := 0
def PySem.W.Fast.tw13238698042326720576 : Nat := 0
def PySem.W.Fast.tw10870246148381436064 : Nat := 0
def PySem.W.Fast.tw18111476736678892936 : Nat := 0
def PySem.W.Fast.tw23445766235728804 : Nat := 0
def PySem.W.Fast.tw2206940738301357019 : Nat := 0
def PySem.W.Fast.tw5960240022378040021 : Nat := 0
def PySem.W.Fast.tw16583326925125738188 : Nat := 0
def PySem.W.Fast.tw17432156922376692822 : Nat := 0
def PySem.W.Fast.tw6345184948311422402 : Nat := 0
def PySem.W.Fast.tw17000082106060644863 : Nat := 0
def PySem.W.Fast.tw4819201866977132982 : Nat := 0
def PySem.W.Fast.tw14092438671899840387 : Nat := 0
def PySem.W.Fast.tw7664070734257435134 : Nat := 0
def PySem.W.Fast.tw9929591337316968662 : Nat := 0
def PySem.W.Fast.tw13294069636150245808 : Nat := 0
def PySem.W.Fast.tw9359970353810274811 : Nat := 0
def PySem.W.Fast.tw2227229726268979632 : Nat := 0
def PySem.W.Fast.tw15026904340499442082 : Nat := 0
def PySem.W.Fast.tw12027317174932706639 : Nat := 0
def PySem.W.Fast.tw6664346624353156529 : Nat := 0
def PySem.W.Fast.tw6341641859459758821 : Nat := 0
def PySem.W.Fast.tw6369030754219909016 : Nat := 0
def PySem.W.Fast.tw2938576169928512841 : Nat := 0
def PySem.W.Fast.tw4999974035196432489 : Nat := 0
def PySem.W.Fast.tw15886643247430517980 : Nat := 0
def PySem.W.Fast.tw1251192565401213168 : Nat := 0
def PySem.W.Fast.tw14562876240677750229 : Nat := 0
def PySem.W.Fast.tw2324280229193534876 : Nat := 0
def PySem.W.Fast.tw7373816144260933672 : Nat := 0
def PySem.W.Fast.tw9399636204974466560 : Nat := 0
def PySem.W.Fast.tw18283190734627501295 : Nat := 0
def PySem.W.Fast.tw16836941535941609424 : Nat := 0
def PySem.W.Fast.tw924821683651120184 : Nat := 0
def PySem.W.Fast.tw11914607147757145889 : Nat := 0
def PySem.W.Fast.tw5833083819246267796 : Nat := 0
def PySem.W.Fast.tw17642421944721081319 : Nat := 0
def PySem.W.Fast.tw2637765460172947899 : Nat := 0
def PySem.W.Fast.tw2508451929336406002 : Nat := 0
def PySem.W.Fast.tw10864891121767700773 : Nat := 0
def PySem.W.Fast.tw10352247568790671141 : Nat := 0
def PySem.W.Fast.tw5154394375341717562 : Nat := 0
def PySem.W.Fast.tw351814535136427845 : Nat := 0
def PySem.W.Fast.tw15598559616781990110 : Nat := 0
def PySem.W.Fast.tw2849298339434124003 : Nat := 0
def PySem.W.Fast.tw44204065779226410 : Nat := 0
def PySem.W.Fast.tw11065472220587737147 : Nat := 0
def PySem.W.Fast.tw329043303687906104 : Nat := 0
def PySem.W.Fast.tw477442293799462570 : Nat := 0
def PySem.W.Fast.tw2133077784318894952 : Nat := 0
def PySem.W.Fast.tw6092733711073286764 : Nat := 0
def PySem.W.Fast.tw14134581163546513456 : Nat := 0
def PySem.W.Fast.tw2033392782134596909 : Nat := 0
def PySem.W.Fast.tw17169671714510843424 : Nat := 0
def PySem.W.Fast.tw2743975184684987154 : Nat := 0
def PySem.W.Fast.tw11509240777631336117 : Nat := 0
def PySem.W.Fast.tw5836217518382676694 : Nat := 0
def PySem.W.Fast.tw12359204103416315640 : Nat := 0
def PySem.W.Fast.tw18355796796317299607 : Nat := 0
def PySem.W.Fast.tw17187468840816240319 : Nat := 0
def PySem.W.Fast.tw6525584338888400705 : Nat := 0
def PySem.W.Fast.tw16593715790186714442 : Nat := 0
def PySem.W.Fast.tw10502689720723324990 : Nat := 0
def PySem.W.Fast.tw7504560204472184147 : Nat := 0
def PySem.W.Fast.tw9215094899884703716 : Nat := 0
def PySem.W.Fast.tw719437853885614645 : Nat := 0
def PySem.W.Fast.tw582709158180600375 : Nat := 0
def PySem.W.Fast.tw927643517060412334 : Nat := 0
def PySem.W.Fast.tw3673135142608896314 : Nat := 0
def PySem.W.Fast.tw1322175382916440061 : Nat := 0
def PySem.W.Fast.tw16038318568869896401 : Nat := 0
def PySem.W.Fast.tw1656739693061590900 : Nat := 0
def PySem.W.Fast.tw2124403408326430452 : Nat := 0
def PySem.W.Fast.tw6485037711323811066 : Nat := 0
def PySem.W.Fast.tw12336227199460758479 : Nat := 0
def PySem.W.Fast.tw16904561685292836473 : Nat := 0
def PySem.W.Fast.tw10094704259901928037 : Nat := 0
def PySem.W.Fast.tw15444328623246832955 : Nat := 0
def PySem.W.Fast.tw3016893183963863961 : Nat := 0
def PySem.W.Fast.tw1339627588126583695 : Nat := 0
def PySem.W.Fast.tw11552567170762930696 : Nat := 0
def PySem.W.Fast.tw11631902892208800812 : Nat := 0
def PySem.W.Fast.tw15891909365585995808 : Nat := 0
def PySem.W.Fast.tw17689160977151242683 : Nat := 0
def PySem.W.Fast.tw11193884213242278872 : Nat := 0
def PySem.W.Fast.tw124067424367503390 : Nat := 0
def PySem.W.Fast.tw16695873040916760046 : Nat := 0
def PySem.W.Fast.tw3846459998753657971 : Nat := 0
def PySem.W.Fast.tw14926676917212054314 : Nat := 0
def PySem.W.Fast.tw3411845248476547740 : Nat := 0
def PySem.W.Fast.tw12757610043038226463 : Nat := 0
def PySem.W.Fast.tw18037361720928660837 : Nat := 0
def PySem.W.Fast.tw9653304466763183737 : Nat := 0
def PySem.W.Fast.tw12837113109939797465 : Nat := 0
def PySem.W.Fast.tw6950602059662030883 : Nat := 0
def PySem.W.Fast.tw621781472058619361 : Nat := 0
def PySem.W.Fast.tw9391715527382433003 : Nat := 0
def PySem.W.Fast.tw2819786313354901030 : Nat := 0
def PySem.W.Fast.tw826370138508520590 : Nat := 0
def PySem.W.Fast.tw3880036712150767391 : Nat := 0
def PySem.W.Fast.tw196157811944602585 : Nat := 0
def PySem.W.Fast.tw15460745089072597589 : Nat := 0
def PySem.W.Fast.tw10920863687933534150 : Nat := 0
def PySem.W.Fast.tw15848003330172362982 : Nat := 0
def PySem.W.Fast.tw7313529261510821622 : Nat := 0
def PySem.W.Fast.tw14648920785204324854 : Nat := 0
def PySem.W.Fast.tw370486698258783256 : Nat := 0
def PySem.W.Fast.tw12028496357938204082 : Nat := 0
def PySem.W.Fast.tw17753518772573428807 : Nat := 0
def PySem.W.Fast.tw11657416790915178366 : Nat := 0
def PySem.W.Fast.tw10551310526484497167 : Nat := 0
def PySem.W.Fast.tw18028156468119302212 : Nat := 0
def PySem.W.Fast.tw4518428905869933758 : Nat := 0
def PySem.W.Fast.tw4190892655546874755 : Nat := 0
def PySem.W.Fast.tw4388029933124970421 : Nat := 0
def PySem.W.Fast.tw8904873224494245287 : Nat := 0
def PySem.W.Fast.tw5011192544482444850 : Nat := 0
def PySem.W.Fast.tw2928475304855559078 : Nat := 0
def PySem.W.Fast.tw11903057744134490724 : Nat := 0
def PySem.W.Fast.tw14829952133299983635 : Nat := 0
def PySem.W.Fast.tw11628873408065896239 : Nat := 0
def PySem.W.Fast.tw16966881796865871938 : Nat := 0
def PySem.W.Fast.tw17187923789156153131 : Nat := 0
def PySem.W.Fast.tw13526494519378386085 : Nat := 0
def PySem.W.Fast.tw15534869169594845100 : Nat := 0
def PySem.W.Fast.tw405765529677085858 : Nat := 0
def PySem.W.Fast.tw17158782646779187130 : Nat := 0
def PySem.W.Fast.tw7910042971046715330 : Nat := 0
def PySem.W.Fast.tw1200767839064669478 : Nat := 0
def PySem.W.Fast.tw10334660780474873444 : Nat := 0
def PySem.W.Fast.tw15932538015652017269 : Nat := 0
def PySem.W.Fast.tw17018824046547611287 : Nat := 0
def PySem.W.Fast.tw4215778839732663806 : Nat := 0
def PySem.W.Fast.tw5515143469874978239 : Nat := 0
def PySem.W.Fast.tw16471703362236576133 : Nat := 0
def PySem.W.Fast.tw16395712411811494162 : Nat := 0
def PySem.W.Fast.tw17845866059131745307 : Nat := 0
def PySem.W.Fast.tw1560199620953015724 : Nat := 0
def PySem.W.Fast.tw13173347682703788250 : Nat := 0
def PySem.W.Fast.tw4797658018787623569 : Nat := 0
def PySem.W.Fast.tw9703358643546512373 : Nat := 0
def PySem.W.Fast.tw3385513039631444023 : Nat := 0
def PySem.W.Fast.tw13897731326506551292 : Nat := 0
def PySem.W.Fast.tw12725976166059859573 : Nat := 0
def PySem.W.Fast.tw10955247464766878031 : Nat := 0
def PySem.W.Fast.tw10886080345528275530 : Nat := 0
def PySem.W.Fast.tw13130788569565903463 : Nat := 0
def PySem.W.Fast.tw13316464107957715715 : Nat := 0
def PySem.W.Fast.tw13360740526818841283 : Nat := 0
def PySem.W.Fast.tw7511248296004811631 : Nat := 0
def PySem.W.Fast.tw5584609174895356926 : Nat := 0
def PySem.W.Fast.tw8574246312995291836 : Nat := 0
def PySem.W.Fast.tw3744758188477207409 : Nat := 0
def PySem.W.Fast.tw10485123361014520933 : Nat := 0
def PySem.W.Fast.tw4257301734678934125 : Nat := 0
def PySem.W.Fast.tw16542977524227302532 : Nat := 0
def PySem.W.Fast.tw5771708964439392795 : Nat := 0
def PySem.W.Fast.tw15083217361528492204 : Nat := 0
def PySem.W.Fast.tw6748943570813375287 : Nat := 0
def PySem.W.Fast.tw5354420505778850988 : Nat := 0
def PySem.W.Fast.tw16218793072120166195 : Nat := 0
def PySem.W.Fast.tw10000357380937674513 : Nat := 0
def PySem.W.Fast.tw6358262364028470723 : Nat := 0
def PySem.W.Fast.tw16759013955759766345 : Nat := 0
def PySem.W.Fast.tw14885463497889791871 : Nat := 0
def PySem.W.Fast.tw5382231783019303501 : Nat := 0
def PySem.W.Fast.tw4956605419681120744 : Nat := 0
def PySem.W.Fast.tw7436552482871443298 : Nat := 0
def PySem.W.Fast.tw17216540313363987348 : Nat := 0
def PySem.W.Fast.tw12167788674768396989 : Nat := 0
def PySem.W.Fast.tw2268146267039935581 : Nat := 0
def PySem.W.Fast.tw10334521435488455137 : Nat := 0
def PySem.W.Fast.tw11041094209217633478 : Nat := 0
def PySem.W.Fast.tw4742725740851188023 : Nat := 0
def PySem.W.Fast.tw7168292974340351775 : Nat := 0
def PySem.W.Fast.tw10935793342128242294 : Nat := 0
def PySem.W.Fast.tw4501823297549888683 : Nat := 0
def PySem.W.Fast.tw7691657312348008784 : Nat := 0
def PySem.W.Fast.tw17392921868893013146 : Nat := 0
def PySem.W.Fast.tw16142614123167617801 : Nat := 0
def PySem.W.Fast.tw7595149281164581981 : Nat := 0
def PySem.W.Fast.tw15789518957464804878 : Nat := 0
def PySem.W.Fast.tw13659732717784510942 : Nat := 0
def PySem.W.Fast.tw11745722339050328556 : Nat := 0
def PySem.W.Fast.tw7429778421372020791 : Nat := 0
def PySem.W.Fast.tw18029153455294900280 : Nat := 0
def PySem.W.Fast.tw8482701780628767537 : Nat := 0
def PySem.W.Fast.tw17714880943715003042 : Nat := 0
def PySem.W.Fast.tw6596648755212865842 : Nat := 0
def PySem.W.Fast.tw1333000586441748483 : Nat := 0
def PySem.W.Fast.tw5321277857226993883 : Nat := 0
def PySem.W.Fast.tw5449701049517245387 : Nat := 0
def PySem.W.Fast.tw17896371945371145055 : Nat := 0
def PySem.W.Fast.tw3952725436719786739 : Nat := 0
def PySem.W.Fast.tw4659166087224786790 : Nat := 0
def PySem.W.Fast.tw7979252157137611749 : Nat := 0
def PySem.W.Fast.tw8950555625111852140 : Nat := 0
def PySem.W.Fast.tw15229097099057957049 : Nat := 0
def PySem.W.Fast.tw21999895857929955 : Nat := 0
def PySem.W.Fast.tw5119056347405546121 : Nat := 0
def PySem.W.Fast.tw14985659109799856513 : Nat := 0
def PySem.W.Fast.tw15737952999051181304 : Nat := 0
def PySem.W.Fast.tw17502670784955689897 : Nat := 0
def PySem.W.Fast.tw557801892116056324 : Nat := 0
def PySem.W.Fast.tw9238883801513659617 : Nat := 0
def PySem.W.Fast.tw6754479307788489898 : Nat := 0
def PySem.W.Fast.tw2678684911040482689 : Nat := 0
def PySem.W.Fast.tw5571068937216368542 : Nat := 0
def PySem.W.Fast.tw4757884898700894410 : Nat := 0
def PySem.W.Fast.tw7762437617629770767 : Nat := 0
def PySem.W.Fast.tw9492515708207524120 : Nat := 0
def PySem.W.Fast.tw18403253595105759938 : Nat := 0
def PySem.W.Fast.tw12285539339212545518 : Nat := 0
def PySem.W.Fast.tw6186688439895452996 : Nat := 0
def PySem.W.Fast.tw7064273184007243929 : Nat := 0
def PySem.W.Fast.tw10723826861986545756 : Nat := 0
def PySem.W.Fast.tw13655999100347138307 : Nat := 0
def PySem.W.Fast.tw12976990127291972750 : Nat := 0
def PySem.W.Fast.tw3137448705895533824 : Nat := 0
def PySem.W.Fast.tw13220562410547680426 : Nat := 0
def PySem.W.Fast.tw11758529626781553010 : Nat := 0
def PySem.W.Fast.tw4077460082564368410 : Nat := 0
def PySem.W.Fast.tw10121030487089495290 : Nat := 0
def PySem.W.Fast.tw531521310018432071 : Nat := 0
def PySem.W.Fast.tw11655840061203813827 : Nat := 0
def PySem.W.Fast.tw12533943231702954654 : Nat := 0
def PySem.W.Fast.tw16815181086726152816 : Nat := 0
def PySem.W.Fast.tw17590238158797114465 : Nat := 0
def PySem.W.Fast.tw10873468069058460664 : Nat := 0
def PySem.W.Fast.tw64563958221151459 : Nat := 0
def PySem.W.Fast.tw16364193100956266152 : Nat := 0
def PySem.W.Fast.tw312812404036170142 : Nat := 0
def PySem.W.Fast.tw15060263669603465295 : Nat := 0
def PySem.W.Fast.tw17704826428262846588 : Nat := 0
def PySem.W.Fast.tw7025732777585153138 : Nat := 0
def PySem.W.Fast.tw8530251681465002373 : Nat := 0
def PySem.W.Fast.tw3784086300601051386 : Nat := 0
def PySem.W.Fast.tw4271230432217575863 : Nat := 0
def PySem.W.Fast.tw1294570376807213208 : Nat := 0
def PySem.W.Fast.tw18214437966156663388 : Nat := 0
def PySem.W.Fast.tw11400165773377875500 : Nat := 0
def PySem.W.Fast.tw5305290785786718982 : Nat := 0
def PySem.W.Fast.tw13715947230239761158 : Nat := 0
def PySem.W.Fast.tw18378743292945304453 : Nat := 0
def PySem.W.Fast.tw13006780456723962561 : Nat := 0
def PySem.W.Fast.tw13885534144571110453 : Nat := 0
def PySem.W.Fast.tw2505749513274255990 : Nat := 0
def PySem.W.Fast.tw15746401039004176643 : Nat := 0
def PySem.W.Fast.tw3122052769730381541 : Nat := 0
def PySem.W.Fast.tw11199673502037449823 : Nat := 0
def PySem.W.Fast.tw8562117078911808101 : Nat := 0
def PySem.W.Fast.tw2278507850235143473 : Nat := 0
def PySem.W.Fast.tw12165911300068121953 : Nat := 0
def PySem.W.Fast.tw11835548568486662567 : Nat := 0
def PySem.W.Fast.tw9666700780853917046 : Nat := 0
def PySem.W.Fast.tw7192417798175581847 : Nat := 0
def PySem.W.Fast.tw2098067229637675408 : Nat := 0
def PySem.W.Fast.tw838927146894322823 : Nat := 0
def PySem.W.Fast.tw7115797196067932796 : Nat := 0
def PySem.W.Fast.tw8160747056197605371 : Nat := 0
def PySem.W.Fast.tw15792283787538339562 : Nat := 0
def PySem.W.Fast.tw7931509288286051423 : Nat := 0
def PySem.W.Fast.tw7145872259610808766 : Nat := 0
def PySem.W.Fast.tw4510604930999793289 : Nat := 0
def PySem.W.Fast.tw15900438158636698153 : Nat := 0
def PySem.W.Fast.tw16012756037201237496 : Nat := 0
def PySem.W.Fast.tw3651320340967729139 : Nat := 0
def PySem.W.Fast.tw14666456158716999583 : Nat := 0
def PySem.W.Fast.tw17752449458416363987 : Nat := 0
def PySem.W.Fast.tw4968791006943416217 : Nat := 0
def PySem.W.Fast.tw5294642443838035021 : Nat := 0
def PySem.W.Fast.tw18004353013770282702 : Nat := 0
def PySem.W.Fast.tw5803507164370564331 : Nat := 0
def PySem.W.Fast.tw8946829749084926981 : Nat := 0
def PySem.W.Fast.tw11168875354561655399 : Nat := 0
def PySem.W.Fast.tw1235282700095209709 : Nat := 0
def PySem.W.Fast.tw2086106878871588 : Nat := 0
def PySem.W.Fast.tw10709821346578050365 : Nat := 0
def PySem.W.Fast.tw3949090546943621899 : Nat := 0
def PySem.W.Fast.tw3328008829748226665 : Nat := 0
def PySem.W.Fast.tw2421032993686848970 : Nat := 0
def PySem.W.Fast.tw13178264365415321374 : Nat := 0
def PySem.W.Fast.tw11524748131902536466 : Nat := 0
def PySem.W.Fast.tw17478962549964508860 : Nat := 0
def PySem.W.Fast.tw12089782917645131134 : Nat := 0
def PySem.W.Fast.tw69920184970642718 : Nat := 0
def PySem.W.Fast.tw13210316341017626763 : Nat := 0
def PySem.W.Fast.tw14162502415527845098 : Nat := 0
def PySem.W.Fast.tw3425098780797504426 : Nat := 0
def PySem.W.Fast.tw1904918748245872340 : Nat := 0
def PySem.W.Fast.tw8798734610598960106 : Nat := 0
def PySem.W.Fast.tw7654326144838365965 : Nat := 0
def PySem.W.Fast.tw11220283878047490926 : Nat := 0
def PySem.W.Fast.tw4988161432809171651 : Nat := 0
def PySem.W.Fast.tw6045812264680672834 : Nat := 0
def PySem.W.Fast.tw10705614732646037399 : Nat := 0
def PySem.W.Fast.tw16319464184994930892 : Nat := 0
def PySem.W.Fast.tw11406697126144687076 : Nat := 0
def PySem.W.Fast.tw16004389799083625562 : Nat := 0
def PySem.W.Fast.tw5779642104719072235 : Nat := 0
def PySem.W.Fast.tw1684662149996224680 : Nat := 0
def PySem.W.Fast.tw16125977163203602053 : Nat := 0
def PySem.W.Fast.tw5177990946461219575 : Nat := 0
def PySem.W.Fast.tw13426619152994314554 : Nat := 0
def PySem.W.Fast.tw6545407495800783685 : Nat := 0
def PySem.W.Fast.tw13584932432022656722 : Nat := 0
def PySem.W.Fast.tw8412320102536651097 : Nat := 0
def PySem.W.Fast.tw16825800536911277690 : Nat := 0
def PySem.W.Fast.tw13645675918860916362 : Nat := 0
def PySem.W.Fast.tw6420019337160903861 : Nat := 0
def PySem.W.Fast.tw2456214456823677814 : Nat := 0
def PySem.W.Fast.tw8700861003046953059 : Nat := 0
def PySem.W.Fast.tw18000617977124012382 : Nat := 0
def PySem.W.Fast.tw6926964335577585340 : Nat := 0
def PySem.W.Fast.tw17072650169072539271 : Nat := 0
def PySem.W.Fast.tw15769477643969809915 : Nat := 0
def PySem.W.Fast.tw10141952644185259724 : Nat := 0
def PySem.W.Fast.tw2925720974513029949 : Nat := 0
def PySem.W.Fast.tw10839629468817422154 : Nat := 0
def PySem.W.Fast.tw7533233878836345132 : Nat := 0
def PySem.W.Fast.tw9577251195220874162 : Nat := 0
def PySem.W.Fast.tw8121534956399856179 : Nat := 0
def PySem.W.Fast.tw7513974650171048339 : Nat := 0
def PySem.W.Fast.tw14084467640236388245 : Nat := 0
def PySem.W.Fast.tw6764221214864897056 : Nat := 0
def PySem.W.Fast.tw3022258611617954902 : Nat := 0
def PySem.W.Fast.tw5547212825940744848 : Nat := 0
def PySem.W.Fast.tw2188720179020009254 : Nat := 0
def PySem.W.Fast.tw13124576072434831523 : Nat := 0
def PySem.W.Fast.tw10436693058741443880 : Nat := 0
def PySem.W.Fast.tw12389582311843519714 : Nat := 0
def PySem.W.Fast.tw3304691264070295951 : Nat := 0
def PySem.W.Fast.tw13571056172544179024 : Nat := 0
def PySem.W.Fast.tw2633236110051320829 : Nat := 0
def PySem.W.Fast.tw3697620119009361123 : Nat := 0
def PySem.W.Fast.tw4873838508851684950 : Nat := 0
def PySem.W.Fast.tw11993697808152382660 : Nat := 0
def PySem.W.Fast.tw13685614672860492349 : Nat := 0
def PySem.W.Fast.tw14572769595242532520 : Nat := 0
def PySem.W.Fast.tw5028961045700716528 : Nat := 0
def PySem.W.Fast.tw10589783901543825791 : Nat := 0
def PySem.W.Fast.tw6702670531670047186 : Nat := 0
def PySem.W.Fast.tw17793974436994576377 : Nat := 0
def PySem.W.Fast.tw11211241967456918446 : Nat := 0
def PySem.W.Fast.tw17589118706273546747 : Nat := 0
def PySem.W.Fast.tw2116469509345716998 : Nat := 0
def PySem.W.Fast.tw16757874142011496019 : Nat := 0
def PySem.W.Fast.tw3751494217189240988 : Nat := 0
def PySem.W.Fast.tw2875632434634672230 : Nat := 0
def PySem.W.Fast.tw5342275156785248721 : Nat := 0
def PySem.W.Fast.tw2236820223796036308 : Nat := 0
def PySem.W.Fast.tw13896198843822584727 : Nat := 0
def PySem.W.Fast.tw5684668935197264118 : Nat := 0
def PySem.W.Fast.tw6533698861704441871 : Nat := 0
def PySem.W.Fast.tw12237274863867634629 : Nat := 0
def PySem.W.Fast.tw11329184121698497863 : Nat := 0
def PySem.W.Fast.tw13709658355243792501 : Nat := 0
def PySem.W.Fast.tw12034834742602902000 : Nat := 0
def PySem.W.Fast.tw17347943935698698139 : Nat := 0
def PySem.W.Fast.tw14927464267553234357 : Nat := 0
def PySem.W.Fast.tw12336461934389651125 : Nat := 0
def PySem.W.Fast.tw1509498120166898476 : Nat := 0
def PySem.W.Fast.tw1715185486384300532 : Nat := 0
def PySem.W.Fast.tw13936149354732184581 : Nat := 0
def PySem.W.Fast.tw5642969188835210160 : Nat := 0
def PySem.W.Fast.tw9556583352970793398 : Nat := 0
def PySem.W.Fast.tw11505321473856217118 : Nat := 0
def PySem.W.Fast.tw6657214047478656447 : Nat := 0
def PySem.W.Fast.tw9350457293624676301 : Nat := 0
def PySem.W.Fast.tw4812784853361696278 : Nat := 0
def PySem.W.Fast.tw4259796169824424981 : Nat := 0
def PySem.W.Fast.tw6195575916712130316 : Nat := 0
def PySem.W.Fast.tw16538858952448300156 : Nat := 0
def PySem.W.Fast.tw14203160264868528428 : Nat := 0
def PySem.W.Fast.tw9850373604442556771 : Nat := 0
def PySem.W.Fast.tw14544577292008658721 : Nat := 0
def PySem.W.Fast.tw15989198359866971703 : Nat := 0
def PySem.W.Fast.tw17448196190019984423 : Nat := 0
def PySem.W.Fast.tw16693132164186100249 : Nat := 0
def PySem.W.Fast.tw481973163166510243 : Nat := 0
def PySem.W.Fast.tw14784997971725395461 : Nat := 0
def PySem.W.Fast.tw389509692230994645 : Nat := 0
def PySem.W.Fast.tw10690720290064465466 : Nat := 0
def PySem.W.Fast.tw12873870419276366320 : Nat := 0
def PySem.W.Fast.tw18371637244556177154 : Nat := 0
def PySem.W.Fast.tw16231549595784380877 : Nat := 0
def PySem.W.Fast.tw9383759273730416343 : Nat := 0
def PySem.W.Fast.tw5962106244749927599 : Nat := 0
def PySem.W.Fast.tw12488946773082607634 : Nat := 0
def PySem.W.Fast.tw1463256150526220500 : Nat := 0
def PySem.W.Fast.tw5828251120419608064 : Nat := 0
def PySem.W.Fast.tw7885132046192721618 : Nat := 0
def PySem.W.Fast.tw9413600069839630421 : Nat := 0
def PySem.W.Fast.tw1480938626231688595 : Nat := 0
def PySem.W.Fast.tw12079532517569824577 : Nat := 0
def PySem.W.Fast.tw8006252528020564945 : Nat := 0
def PySem.W.Fast.tw16694653780011984312 : Nat := 0
def PySem.W.Fast.tw17595690046658636113 : Nat := 0
def PySem.W.Fast.tw4243890978680583168 : Nat := 0
def PySem.W.Fast.tw17285797333206557044 : Nat := 0
def PySem.W.Fast.tw6814472545648493389 : Nat := 0
def PySem.W.Fast.tw4918419721115205919 : Nat := 0
def PySem.W.Fast.tw1376613673598690212 : Nat := 0
def PySem.W.Fast.tw5057381394111875497 : Nat := 0
def PySem.W.Fast.tw16649194267393383187 : Nat := 0
def PySem.W.Fast.tw12937349935035849281 : Nat := 0
def PySem.W.Fast.tw10415059905542624329 : Nat := 0
def PySem.W.Fast.tw154449086721976847 : Nat := 0
def PySem.W.Fast.tw4994400387134734520 : Nat := 0
def PySem.W.Fast.tw9522384640746701204 : Nat := 0
def PySem.W.Fast.tw1352956530485469798 : Nat := 0
def PySem.W.Fast.tw3479327005079772631 : Nat := 0
def PySem.W.Fast.tw11228845666937791781 : Nat := 0
def PySem.W.Fast.tw15540881877906591173 : Nat := 0
def PySem.W.Fast.tw16832894836889906521 : Nat := 0
def PySem.W.Fast.tw13310491190024119303 : Nat := 0
def PySem.W.Fast.tw5006096383073270990 : Nat := 0
def PySem.W.Fast.tw11278756441740391514 : Nat := 0
def PySem.W.Fast.tw6548607568932579104 : Nat := 0
def PySem.W.Fast.tw2332967087951994141 : Nat := 0
def PySem.W.Fast.tw12758029367847303867 : Nat := 0
def PySem.W.Fast.tw16855190527397888427 : Nat := 0
def PySem.W.Fast.tw2781605216093019355 : Nat := 0
def PySem.W.Fast.tw12051288657305478063 : Nat := 0
def PySem.W.Fast.tw15927441552523714325 : Nat := 0
def PySem.W.Fast.tw3104186928518228775 : Nat := 0
def PySem.W.Fast.tw5678406046289594742 : Nat := 0
def PySem.W.Fast.tw16738209679397248011 : Nat := 0
def PySem.W.Fast.tw939024679859538659 : Nat := 0
def PySem.W.Fast.tw3612622351162005222 : Nat := 0
def PySem.W.Fast.tw10840669723381121983 : Nat := 0
def PySem.W.Fast.tw2436502250525422538 : Nat := 0
def PySem.W.Fast.tw17978704383357645957 : Nat := 0
def PySem.W.Fast.tw9054433934957004712 : Nat := 0
def PySem.W.Fast.tw3171919515026025891 : Nat := 0
def PySem.W.Fast.tw13185721527227061254 : Nat := 0
def PySem.W.Fast.tw18082225127176065104 : Nat := 0
def PySem.W.Fast.tw8748976928781158856 : Nat := 0
def PySem.W.Fast.tw11850533327904236706 : Nat := 0
def PySem.W.Fast.tw4511945308910207088 : Nat := 0
def PySem.W.Fast.tw12904659782952900290 : Nat := 0
def PySem.W.Fast.tw6100654260103298490 : Nat := 0
def PySem.W.Fast.tw12684017070189842397 : Nat := 0
def PySem.W.Fast.tw6920742796581201150 : Nat := 0
def PySem.W.Fast.tw13043179008939335920 : Nat := 0
def PySem.W.Fast.tw15592917855292522169 : Nat := 0
def PySem.W.Fast.tw9180962047821742508 : Nat := 0
def PySem.W.Fast.tw16699845311306266224 : Nat := 0
def PySem.W.Fast.tw17837071913324036805 : Nat := 0
def PySem.W.Fast.tw13914536173778147610 : Nat := 0
def PySem.W.Fast.tw12346173607727985323 : Nat := 0
def PySem.W.Fast.tw165622156252776671 : Nat := 0
def PySem.W.Fast.tw9048229667197518731 : Nat := 0
def PySem.W.Fast.tw16776618843595388331 : Nat := 0
def PySem.W.Fast.tw5530698505741920809 : Nat := 0
def PySem.W.Fast.tw8925545428322817077 : Nat := 0
def PySem.W.Fast.tw2773609276020799995 : Nat := 0
def PySem.W.Fast.tw10515798021367722023 : Nat := 0
def PySem.W.Fast.tw10315496333795053598 : Nat := 0
def PySem.W.Fast.tw15147136845822801966 : Nat := 0
def PySem.W.Fast.tw5868922651499784025 : Nat := 0
def PySem.W.Fast.tw15279004196727406083 : Nat := 0
def PySem.W.Fast.tw2444720702379893860 : Nat := 0
def PySem.W.Fast.tw15337016077667455270 : Nat := 0
def PySem.W.Fast.tw4704779842048225232 : Nat := 0
def PySem.W.Fast.tw5981196342876295502 : Nat := 0
def PySem.W.Fast.tw13238192067623407100 : Nat := 0
def PySem.W.Fast.tw963498014157422579 : Nat := 0
def PySem.W.Fast.tw15486646702884621110 : Nat := 0
def PySem.W.Fast.tw8843225615338398905 : Nat := 0
def PySem.W.Fast.tw862415551776397733 : Nat := 0
def PySem.W.Fast.tw3451374606276869416 : Nat := 0
def PySem.W.Fast.tw3765603908458325962 : Nat := 0
def PySem.W.Fast.tw9193378857889935503 : Nat := 0
def PySem.W.Fast.tw11761199787035918946 : Nat := 0
def PySem.W.Fast.tw4341334884891325650 : Nat := 0
def PySem.W.Fast.tw7940743841460472607 : Nat := 0
def PySem.W.Fast.tw13334320302211051158 : Nat := 0
def PySem.W.Fast.tw7386537437091074553 : Nat := 0
def PySem.W.Fast.tw3020965192068134136 : Nat := 0
def PySem.W.Fast.tw3976374791925413745 : Nat := 0
def PySem.W.Fast.tw2139650881995200897 : Nat := 0
def PySem.W.Fast.tw8321206818321193606 : Nat := 0
def PySem.W.Fast.tw7204939596392115200 : Nat := 0
def PySem.W.Fast.tw13486723897167810292 : Nat := 0
def PySem.W.Fast.tw17079393178781033242 : Nat := 0
def PySem.W.Fast.tw13912728563296348029 : Nat := 0
def PySem.W.Fast.tw14882221347337615672 : Nat := 0
def PySem.W.Fast.tw10501800449574062766 : Nat := 0
def PySem.W.Fast.tw13631448399365042845 : Nat := 0
def PySem.W.Fast.tw955822836530893614 : Nat := 0
def PySem.W.Fast.tw448928052623570412 : Nat := 0
def PySem.W.Fast.tw6354984592694909961 : Nat := 0
def PySem.W.Fast.tw14615259195306777587 : Nat := 0
def PySem.W.Fast.tw14428711770018641150 : Nat := 0
def PySem.W.Fast.tw7828680394356763791 : Nat := 0
def PySem.W.Fast.tw14358541669855305412 : Nat := 0
def PySem.W.Fast.tw3366446501800251995 : Nat := 0
def PySem.W.Fast.tw9911913165557332149 : Nat := 0
def PySem.W.Fast.tw16338753162467199703 : Nat := 0
def PySem.W.Fast.tw7377953276609066970 : Nat := 0
def PySem.W.Fast.tw16331845753896681384 : Nat := 0
def PySem.W.Fast.tw7569174100555012633 : Nat := 0
def PySem.W.Fast.tw7668958559151940641 : Nat := 0
def PySem.W.Fast.tw17335160594582771089 : Nat := 0
def PySem.W.Fast.tw9494521410601652861 : Nat := 0
def PySem.W.Fast.tw12315563362433367153 : Nat := 0
def PySem.W.Fast.tw4629719449627303727 : Nat := 0
def PySem.W.Fast.tw4772545541264329213 : Nat := 0
def PySem.W.Fast.tw12750489827952880661 : Nat := 0
def PySem.W.Fast.tw2114268825282466050 : Nat := 0
def PySem.W.Fast.tw3721712843541432326 : Nat := 0
def PySem.W.Fast.tw9804154396827724556 : Nat := 0
def PySem.W.Fast.tw2398123967227583989 : Nat := 0
def PySem.W.Fast.tw6690628361852498648 : Nat := 0
def PySem.W.Fast.tw13817145254857715379 : Nat := 0
def PySem.W.Fast.tw16505633350636887733 : Nat := 0
def PySem.W.Fast.tw11178188536654445866 : Nat := 0
def PySem.W.Fast.tw6659269923855361553 : Nat := 0
def PySem.W.Fast.tw17777736663583785296 : Nat := 0
def PySem.W.Fast.tw17703051950119634333 : Nat := 0
def PySem.W.Fast.tw3832076891886543936 : Nat := 0
def PySem.W.Fast.tw17207825483504354493 : Nat := 0
def PySem.W.Fast.tw11005401267687125512 : Nat := 0
def PySem.W.Fast.tw18147871708221974236 : Nat := 0
def PySem.W.Fast.tw12362650096940406463 : Nat := 0
def PySem.W.Fast.tw12583498101688479928 : Nat := 0
def PySem.W.Fast.tw1308781268171279264 : Nat := 0
def PySem.W.Fast.tw13153696997575532012 : Nat := 0
def PySem.W.Fast.tw14343351811129088921 : Nat := 0
def PySem.W.Fast.tw16617272310409502446 : Nat := 0
def PySem.W.Fast.tw9578111033460689895 : Nat := 0
def PySem.W.Fast.tw114628739283120656 : Nat := 0
def PySem.W.Fast.tw12375001337350637549 : Nat := 0
def PySem.W.Fast.tw4615682856492332045 : Nat := 0
def PySem.W.Fast.tw902822705075653689 : Nat := 0
def PySem.W.Fast.tw5262018547894010938 : Nat := 0
def PySem.W.Fast.tw11527544893519518577 : Nat := 0
def PySem.W.Fast.tw8265132522382182063 : Nat := 0
def PySem.W.Fast.tw12370633176916188681 : Nat := 0
def PySem.W.Fast.tw11035527634643186874 : Nat := 0
def PySem.W.Fast.tw13353538068136513696 : Nat := 0
def PySem.W.Fast.tw1891306132747693435 : Nat := 0
def PySem.W.Fast.tw4143893661367414879 : Nat := 0
def PySem.W.Fast.tw6213441110807349196 : Nat := 0
def PySem.W.Fast.tw14193113864490469422 : Nat := 0
def PySem.W.Fast.tw17411069180271738720 : Nat := 0
def PySem.W.Fast.tw2254448696779247861 : Nat := 0
def PySem.W.Fast.tw15426784056771176518 : Nat := 0
def PySem.W.Fast.tw8161620117981662902 : Nat := 0
def PySem.W.Fast.tw2031518044038826277 : Nat := 0
def PySem.W.Fast.tw1000163867074287977 : Nat := 0
def PySem.W.Fast.tw5619498973580511408 : Nat := 0
def PySem.W.Fast.tw749385632573783322 : Nat := 0
def PySem.W.Fast.tw18045762368943204013 : Nat := 0
def PySem.W.Fast.tw13704398261143896986 : Nat := 0
def PySem.W.Fast.tw2268741187521602350 : Nat := 0
def PySem.W.Fast.tw15878747892549191836 : Nat := 0
def PySem.W.Fast.tw16485410556271167901 : Nat := 0
def PySem.W.Fast.tw15014392762857204102 : Nat := 0
def PySem.W.Fast.tw15945985289386288324 : Nat := 0
def PySem.W.Fast.tw3387616459316118151 : Nat := 0
def PySem.W.Fast.tw9078605003741875261 : Nat := 0
def PySem.W.Fast.tw6600554796712324007 : Nat := 0
def PySem.W.Fast.tw15362358924165486622 : Nat := 0
def PySem.W.Fast.tw2204952267728644477 : Nat := 0
def PySem.W.Fast.tw3338326815972294791 : Nat := 0
def PySem.W.Fast.tw9167277768821668943 : Nat := 0
def PySem.W.Fast.tw12962867157233996152 : Nat := 0
def PySem.W.Fast.tw10695281447446292009 : Nat := 0
def PySem.W.Fast.tw17218297356443368597 : Nat := 0
def PySem.W.Fast.tw4181329952154359053 : Nat := 0
def PySem.W.Fast.tw13457707657552285618 : Nat := 0
def PySem.W.Fast.tw5681836778480648813 : Nat := 0
def PySem.W.Fast.tw8078916063820262236 : Nat := 0
def PySem.W.Fast.tw17567778495801822941 : Nat := 0
def PySem.W.Fast.tw10539561160578462200 : Nat := 0
def PySem.W.Fast.tw14306024310960630559 : Nat := 0
def PySem.W.Fast.tw17802024441104387692 : Nat := 0
def PySem.W.Fast.tw9193015487927722854 : Nat := 0
def PySem.W.Fast.tw17054228964665399116 : Nat := 0
def PySem.W.Fast.tw16886586340462815855 : Nat := 0
def PySem.W.Fast.tw7551556251654898349 : Nat := 0
def PySem.W.Fast.tw14888370802698317305 : Nat := 0
def PySem.W.Fast.tw1572480861463934399 : Nat := 0
def PySem.W.Fast.tw7174161814669532056 : Nat := 0
def PySem.W.Fast.tw15314471961196058418 : Nat := 0
def PySem.W.Fast.tw12330790634444591296 : Nat := 0
def PySem.W.Fast.tw7525975832743504141 : Nat := 0
def PySem.W.Fast.tw17166239705342618505 : Nat := 0
def PySem.W.Fast.tw16922859002200784542 : Nat := 0
def PySem.W.Fast.tw1809470947310010337 : Nat := 0
def PySem.W.Fast.tw17047108812938524599 : Nat := 0
def PySem.W.Fast.tw8199205087333124314 : Nat := 0
def PySem.W.Fast.tw13113849691739818010 : Nat := 0
def PySem.W.Fast.tw12520554371147628925 : Nat := 0
def PySem.W.Fast.tw12515706558790265244 : Nat := 0
def PySem.W.Fast.tw1517349969317236538 : Nat := 0
def PySem.W.Fast.tw6014467109416143908 : Nat := 0
def PySem.W.Fast.tw11380620005104013679 : Nat := 0
def PySem.W.Fast.tw11939899496481255066 : Nat := 0
def PySem.W.Fast.tw9180849644096610229 : Nat := 0
def PySem.W.Fast.tw521265429385494988 : Nat := 0
def PySem.W.Fast.tw4301341605498435529 : Nat := 0
def PySem.W.Fast.tw9709663858168715685 : Nat := 0
def PySem.W.Fast.tw14629108306469570313 : Nat := 0
def PySem.W.Fast.tw12802608113879715989 : Nat := 0
def PySem.W.Fast.tw11485174706227230566 : Nat := 0
def PySem.W.Fast.tw13815344718848529160 : Nat := 0
def PySem.W.Fast.tw13595015099326773367 : Nat := 0
def PySem.W.Fast.tw16598300874431787575 : Nat := 0
def PySem.W.Fast.tw14555867941845351418 : Nat := 0
def PySem.W.Fast.tw6238734305703353494 : Nat := 0
def PySem.W.Fast.tw16409382259566381569 : Nat := 0
def PySem.W.Fast.tw4176987396835407549 : Nat := 0
def PySem.W.Fast.tw17903885176831073928 : Nat := 0
def PySem.W.Fast.tw10076325267944114736 : Nat := 0
def PySem.W.Fast.tw1321277956243355399 : Nat := 0
def PySem.W.Fast.tw13211785486940825298 : Nat := 0
def PySem.W.Fast.tw10079276493529269866 : Nat := 0
def PySem.W.Fast.tw16339794798697823109 : Nat := 0
def PySem.W.Fast.tw3365143905770525230 : Nat := 0
def PySem.W.Fast.tw13489980475651431735 : Nat := 0
def PySem.W.Fast.tw1576426849287741143 : Nat := 0
def PySem.W.Fast.tw2588720987482477275 : Nat := 0
def PySem.W.Fast.tw10162101603628101698 : Nat := 0
def PySem.W.Fast.tw17862547938802083059 : Nat := 0
def PySem.W.Fast.tw15813907776175010099 : Nat := 0
def PySem.W.Fast.tw6033257423029660150 : Nat := 0
def PySem.W.Fast.tw13176736447046774774 : Nat := 0
def PySem.W.Fast.tw3433783927092687174 : Nat := 0
def PySem.W.Fast.tw3499314245470740785 : Nat := 0
def PySem.W.Fast.tw4913858279001785833 : Nat := 0
def PySem.W.Fast.tw10739639626578732738 : Nat := 0
def PySem.W.Fast.tw7430821453148583639 : Nat := 0
def PySem.W.Fast.tw7349921712388911853 : Nat := 0
def PySem.W.Fast.tw5220271520825410933 : Nat := 0
def PySem.W.Fast.tw7522498521579325312 : Nat := 0
def PySem.W.Fast.tw1389373326741026095 : Nat := 0
def PySem.W.Fast.tw3339543931565002726 : Nat := 0
def PySem.W.Fast.tw1561602691163651711 : Nat := 0
def PySem.W.Fast.tw8778304769764008727 : Nat := 0
def PySem.W.Fast.tw18428475619609399566 : Nat := 0
def PySem.W.Fast.tw14368226376477160399 : Nat := 0
def PySem.W.Fast.tw13276333454801662411 : Nat := 0
def PySem.W.Fast.tw11116355670044120089 : Nat := 0
def PySem.W.Fast.tw13755300206643166948 : Nat := 0
def PySem.W.Fast.tw8860382846765209836 : Nat := 0
def PySem.W.Fast.tw10343638132525882962 : Nat := 0
def PySem.W.Fast.tw10516516628093849773 : Nat := 0
def PySem.W.Fast.tw8530883274405555955 : Nat := 0
def PySem.W.Fast.tw1188965525466006411 : Nat := 0
def PySem.W.Fast.tw14894994628507140481 : Nat := 0
def PySem.W.Fast.tw12493196355336899186 : Nat := 0
def PySem.W.Fast.tw7286678407522200152 : Nat := 0
def PySem.W.Fast.tw11648605849226267398 : Nat := 0
def PySem.W.Fast.tw15201901638090896642 : Nat := 0
def PySem.W.Fast.tw4875853610405727148 : Nat := 0
def PySem.W.Fast.tw17104908300403871509 : Nat := 0
def PySem.W.Fast.tw2741194044566360361 : Nat := 0
def PySem.W.Fast.tw16770824173184612731 : Nat := 0
def PySem.W.Fast.tw7928726710974285441 : Nat := 0
def PySem.W.Fast.tw1901682450005596760 : Nat := 0
def PySem.W.Fast.tw15695808043875103442 : Nat := 0
def PySem.W.Fast.tw3393316627126132479 : Nat := 0
def PySem.W.Fast.tw980008164345979221 : Nat := 0
def PySem.W.Fast.tw640984988602594220 : Nat := 0
def PySem.W.Fast.tw12389420067677632446 : Nat := 0
def PySem.W.Fast.tw15179243701350488224 : Nat := 0
def PySem.W.Fast.tw18195843362447202241 : Nat := 0
def PySem.W.Fast.tw8782212536059192086 : Nat := 0
def PySem.W.Fast.tw13856395852693901294 : Nat := 0
def PySem.W.Fast.tw10978629666277265147 : Nat := 0
def PySem.W.Fast.tw9361688651645331280 : Nat := 0
def PySem.W.Fast.tw12074444523823893532 : Nat := 0
def PySem.W.Fast.tw5459621173777092927 : Nat := 0
def PySem.W.Fast.tw3439985278909455245 : Nat := 0
def PySem.W.Fast.tw2440081579022104051 : Nat := 0
def PySem.W.Fast.tw6448309745939450973 : Nat := 0
def PySem.W.Fast.tw10530636254716009878 : Nat := 0
def PySem.W.Fast.tw17793065094313467607 : Nat := 0
def PySem.W.Fast.tw14837150373570115487 : Nat := 0
def PySem.W.Fast.tw13778919860317881517 : Nat := 0
def PySem.W.Fast.tw8355375215496270764 : Nat := 0
def PySem.W.Fast.tw2791662960358909031 : Nat := 0
def PySem.W.Fast.tw5140404931419688126 : Nat := 0
def PySem.W.Fast.tw12260940208068911319 : Nat := 0
def PySem.W.Fast.tw2167697778115241612 : Nat := 0
def PySem.W.Fast.tw12367004484971501080 : Nat := 0
def PySem.W.Fast.tw12590651504158680968 : Nat := 0
def PySem.W.Fast.tw16353049824123684725 : Nat := 0
def PySem.W.Fast.tw8887517680508039094 : Nat := 0
def PySem.W.Fast.tw4692959443514155645 : Nat := 0
def PySem.W.Fast.tw4807070729070129292 : Nat := 0
def PySem.W.Fast.tw15011729671305860259 : Nat := 0
def PySem.W.Fast.tw14042051887180001878 : Nat := 0
def PySem.W.Fast.tw12831774465317862322 : Nat := 0
def PySem.W.Fast.tw9837682080312899572 : Nat := 0
def PySem.W.Fast.tw9390234884763351302 : Nat := 0
def PySem.W.Fast.tw5970158036108189629 : Nat := 0
def PySem.W.Fast.tw16127000680467022031 : Nat := 0
def PySem.W.Fast.tw11818055216775077894 : Nat := 0
def PySem.W.Fast.tw5013479937441543206 : Nat := 0
def PySem.W.Fast.tw8401388588633819165 : Nat := 0
def PySem.W.Fast.tw16941534408418327174 : Nat := 0
def PySem.W.Fast.tw2430985726620262345 : Nat := 0
def PySem.W.Fast.tw8789381082388868140 : Nat := 0
def PySem.W.Fast.tw6993434930071225352 : Nat := 0
def PySem.W.Fast.tw213540915766053958 : Nat := 0
def PySem.W.Fast.tw8661894289581119854 : Nat := 0
def PySem.W.Fast.tw458767973389800768 : Nat := 0
def PySem.W.Fast.tw7151688187617224800 : Nat := 0
def PySem.W.Fast.tw13209456210851219248 : Nat := 0
def PySem.W.Fast.tw15468609449264034083 : Nat := 0
def PySem.W.Fast.tw1506112858749840777 : Nat := 0
def PySem.W.Fast.tw602069474288427659 : Nat := 0
def PySem.W.Fast.tw7801979204747318619 : Nat := 0
def PySem.W.Fast.tw8101556477577433125 : Nat := 0
def PySem.W.Fast.tw17134180669596289668 : Nat := 0
def PySem.W.Fast.tw4597624915332518170 : Nat := 0
def PySem.W.Fast.tw6357980976413160130 : Nat := 0
def PySem.W.Fast.tw13551137972924682228 : Nat := 0
def PySem.W.Fast.tw15579400388595796999 : Nat := 0
def PySem.W.Fast.tw7798488703184966165 : Nat := 0
def PySem.W.Fast.tw9063455848882455917 : Nat := 0
def PySem.W.Fast.tw4386500938907886228 : Nat := 0
def PySem.W.Fast.tw11250992980808441827 : Nat := 0
def PySem.W.Fast.tw8735907835424751922 : Nat := 0
def PySem.W.Fast.tw14750828356504970324 : Nat := 0
def PySem.W.Fast.tw1699585446418951864 : Nat := 0
def PySem.W.Fast.tw18345364036822958735 : Nat := 0
def PySem.W.Fast.tw8576007592566402494 : Nat := 0
def PySem.W.Fast.tw674284434667875169 : Nat := 0
def PySem.W.Fast.tw14390088959218254758 : Nat := 0
def PySem.W.Fast.tw13898744401358109208 : Nat := 0
def PySem.W.Fast.tw13407051154989132435 : Nat := 0
def PySem.W.Fast.tw9232570026071791752 : Nat := 0
def PySem.W.Fast.tw8441900559374156631 : Nat := 0
def PySem.W.Fast.tw8008779354893784972 : Nat := 0
def PySem.W.Fast.tw13994415460823678456 : Nat := 0
def PySem.W.Fast.tw6816624813720599829 : Nat := 0
def PySem.W.Fast.tw10173762337554518207 : Nat := 0
def PySem.W.Fast.tw12264603055117842772 : Nat := 0
def PySem.W.Fast.tw11667063066144179529 : Nat := 0
def PySem.W.Fast.tw9423570795696401161 : Nat := 0
def PySem.W.Fast.tw8533655884507285923 : Nat := 0
def PySem.W.Fast.tw6769301525028117705 : Nat := 0
def PySem.W.Fast.tw16572502861334426565 : Nat := 0
def PySem.W.Fast.tw10493236466305074923 : Nat := 0
def PySem.W.Fast.tw9882339170277362271 : Nat := 0
def PySem.W.Fast.tw7298752160655262176 : Nat := 0
def PySem.W.Fast.tw11432674576721540805 : Nat := 0
def PySem.W.Fast.tw16079098587129974902 : Nat := 0
def PySem.W.Fast.tw12647823082840989050 : Nat := 0
def PySem.W.Fast.tw9394288196680274278 : Nat := 0
def PySem.W.Fast.tw12171825975076132478 : Nat := 0
def PySem.W.Fast.tw15269638004099584001 : Nat := 0
def PySem.W.Fast.tw14395940521927953504 : Nat := 0
def PySem.W.Fast.tw16405129706094674631 : Nat := 0
def PySem.W.Fast.tw15553382543606155365 : Nat := 0
def PySem.W.Fast.tw3087577642032789273 : Nat := 0
def PySem.W.Fast.tw8882706606500059674 : Nat := 0
def PySem.W.Fast.tw11650384639195163670 : Nat := 0
def PySem.W.Fast.tw8853671796447436344 : Nat := 0
def PySem.W.Fast.tw10166703374922599243 : Nat := 0
def PySem.W.Fast.tw4989590335834831222 : Nat := 0
def PySem.W.Fast.tw10051380665166655458 : Nat := 0
def PySem.W.Fast.tw15130514414910459794 : Nat := 0
def PySem.W.Fast.tw17137251193416488569 : Nat := 0
def PySem.W.Fast.tw2816485835795519489 : Nat := 0
def PySem.W.Fast.tw10630013950873821061 : Nat := 0
def PySem.W.Fast.tw2900679269868025991 : Nat := 0
def PySem.W.Fast.tw157036858888605287 : Nat := 0
def PySem.W.Fast.tw13751035241370058503 : Nat := 0
def PySem.W.Fast.tw8690501490953424136 : Nat := 0
def PySem.W.Fast.tw17246068210364845491 : Nat := 0
def PySem.W.Fast.tw13793181571900005265 : Nat := 0
def PySem.W.Fast.tw17411630575835317489 : Nat := 0
def PySem.W.Fast.tw4782995543947903223 : Nat := 0
def PySem.W.Fast.tw15635153267201796871 : Nat := 0
def PySem.W.Fast.tw11479454958953544844 : Nat := 0
def PySem.W.Fast.tw17420966280245633504 : Nat := 0
def PySem.W.Fast.tw4087060812949627549 : Nat := 0
def PySem.W.Fast.tw5442693800193713222 : Nat := 0
def PySem.W.Fast.tw4635266008267064921 : Nat := 0
def PySem.W.Fast.tw3196442488872461645 : Nat := 0
def PySem.W.Fast.tw14752878565269939429 : Nat := 0
def PySem.W.Fast.tw6974310088419013382 : Nat := 0
def PySem.W.Fast.tw8274767193726340212 : Nat := 0
def PySem.W.Fast.tw11628889648142497024 : Nat := 0
def PySem.W.Fast.tw6330149378827284556 : Nat := 0
def PySem.W.Fast.tw3877208428838116169 : Nat := 0
def PySem.W.Fast.tw2534251628574059911 : Nat := 0
def PySem.W.Fast.tw1347476250906944285 : Nat := 0
def PySem.W.Fast.tw5556439922048305986 : Nat := 0
def PySem.W.Fast.tw5338375088890733691 : Nat := 0
def PySem.W.Fast.tw7587628121986709764 : Nat := 0
def PySem.W.Fast.tw5513125552643730050 : Nat := 0
def PySem.W.Fast.tw3270303744638452637 : Nat := 0
def PySem.W.Fast.tw15907319564801055955 : Nat := 0
def PySem.W.Fast.tw10109167763464430507 : Nat := 0
def PySem.W.Fast.tw3266200240983551722 : Nat := 0
def PySem.W.Fast.tw1873938361407229557 : Nat := 0
def PySem.W.Fast.tw12945628193898431221 : Nat := 0
def PySem.W.Fast.tw17869843202252533569 : Nat := 0
def PySem.W.Fast.tw13560791053737224985 : Nat := 0
def PySem.W.Fast.tw4273393801329964824 : Nat := 0
def PySem.W.Fast.tw8207505815346434147 : Nat := 0
def PySem.W.Fast.tw4917571755531292617 : Nat := 0
def PySem.W.Fast.tw12497437506093197350 : Nat := 0
def PySem.W.Fast.tw2396810230981487456 : Nat := 0
def PySem.W.Fast.tw13651685147303655196 : Nat := 0
def PySem.W.Fast.tw15663369023197853110 : Nat := 0
def PySem.W.Fast.tw16083151435800036945 : Nat := 0
def PySem.W.Fast.tw9612612742630256479 : Nat := 0
def PySem.W.Fast.tw10427262722788441443 : Nat := 0
def PySem.W.Fast.tw10397960559078027772 : Nat := 0
def PySem.W.Fast.tw15244562672027998000 : Nat := 0
def PySem.W.Fast.tw2147843655483931213 : Nat := 0
def PySem.W.Fast.tw9291619823320904536 : Nat := 0
def PySem.W.Fast.tw15679800882555987526 : Nat := 0
def PySem.W.Fast.tw15926889514966316592 : Nat := 0
def PySem.W.Fast.tw12574755138582860935 : Nat := 0
def PySem.W.Fast.tw6619324783745595117 : Nat := 0
def PySem.W.Fast.tw5961735141453095568 : Nat := 0
def PySem.W.Fast.tw7055349174114818228 : Nat := 0
def PySem.W.Fast.tw14121167829252785367 : Nat := 0
def PySem.W.Fast.tw15863598382756014948 : Nat := 0
def PySem.W.Fast.tw17784587413579095608 : Nat := 0
def PySem.W.Fast.tw10384905777893480124 : Nat := 0
def PySem.W.Fast.tw10222421554972437760 : Nat := 0
def PySem.W.Fast.tw9257262690893661714 : Nat := 0
def PySem.W.Fast.tw6643123056392066752 : Nat := 0
def PySem.W.Fast.tw621086983301803066 : Nat := 0
def PySem.W.Fast.tw13068937113157827618 : Nat := 0
def PySem.W.Fast.tw3101167456476410931 : Nat := 0
def PySem.W.Fast.tw2521993564261931332 : Nat := 0
def PySem.W.Fast.tw16212154140245849918 : Nat := 0
def PySem.W.Fast.tw9389677753725824247 : Nat := 0
def PySem.W.Fast.tw9587387736636782147 : Nat := 0
def PySem.W.Fast.tw197748208760198540 : Nat := 0
def PySem.W.Fast.tw9891945019986714428 : Nat := 0
def PySem.W.Fast.tw15979676689190913079 : Nat := 0
def PySem.W.Fast.tw9652252783181292141 : Nat := 0
def PySem.W.Fast.tw12943577420671379476 : Nat := 0
def PySem.W.Fast.tw15871378516120672747 : Nat := 0
def PySem.W.Fast.tw10296219245566172810 : Nat := 0
def PySem.W.Fast.tw4356708577453014893 : Nat := 0
def PySem.W.Fast.tw13063757004929906311 : Nat := 0
def PySem.W.Fast.tw5650093430833163666 : Nat := 0
def PySem.W.Fast.tw7282153799019797717 : Nat := 0
def PySem.W.Fast.tw900662583575881282 : Nat := 0
def PySem.W.Fast.tw12566626015547133375 : Nat := 0
def PySem.W.Fast.tw1023389535384538881 : Nat := 0
def PySem.W.Fast.tw7577097973618798221 : Nat := 0
def PySem.W.Fast.tw13879819456259843972 : Nat := 0
def PySem.W.Fast.tw10794121774757048870 : Nat := 0
def PySem.W.Fast.tw2293893876686957193 : Nat := 0
def PySem.W.Fast.tw1353066230645927749 : Nat := 0
def PySem.W.Fast.tw12307455228515062859 : Nat := 0
def PySem.W.Fast.tw16254593926492011099 : Nat := 0
def PySem.W.Fast.tw1332660710866533334 : Nat := 0
def PySem.W.Fast.tw16985998320158293084 : Nat := 0
def PySem.W.Fast.tw17806308262998864806 : Nat := 0
def PySem.W.Fast.tw2853716018409942794 : Nat := 0
def PySem.W.Fast.tw17541079013137648742 : Nat := 0
def PySem.W.Fast.tw1563392634519961557 : Nat := 0
def PySem.W.Fast.tw6455729704214234402 : Nat := 0
def PySem.W.Fast.tw12698959036764752330 : Nat := 0
def PySem.W.Fast.tw14113309586221066112 : Nat := 0
def PySem.W.Fast.tw386266366300283807 : Nat := 0
def PySem.W.Fast.tw2853252718950334130 : Nat := 0
def PySem.W.Fast.tw3045892806510885924 : Nat := 0
def PySem.W.Fast.tw18284368287788037821 : Nat := 0
def PySem.W.Fast.tw15204994361872962766 : Nat := 0
def PySem.W.Fast.tw18127544846399916051 : Nat := 0
def PySem.W.Fast.tw17714361497300735895 : Nat := 0
def PySem.W.Fast.tw2231870900730478939 : Nat := 0
def PySem.W.Fast.tw5108440286831768752 : Nat := 0
def PySem.W.Fast.tw14509428546113562739 : Nat := 0
def PySem.W.Fast.tw5597423034105324110 : Nat := 0
def PySem.W.Fast.tw10544331658129543346 : Nat := 0
def PySem.W.Fast.tw6965813052142173205 : Nat := 0
def PySem.W.Fast.tw5615610785601042353 : Nat := 0
def PySem.W.Fast.tw7111830710205066901 : Nat := 0
def PySem.W.Fast.tw4606937266901449064 : Nat := 0
def PySem.W.Fast.tw9496501166312532595 : Nat := 0
def PySem.W.Fast.tw8358962177304188958 : Nat := 0
def PySem.W.Fast.tw10179591453336446160 : Nat := 0
def PySem.W.Fast.tw7815047640911208229 : Nat := 0
def PySem.W.Fast.tw9692529925032841620 : Nat := 0
def PySem.W.Fast.tw10432114106264376148 : Nat := 0
def PySem.W.Fast.tw11436539186155392308 : Nat := 0
def PySem.W.Fast.tw6966286457037341334 : Nat := 0
def PySem.W.Fast.tw2599174457820841517 : Nat := 0
def PySem.W.Fast.tw9398008938034187123 : Nat := 0
def PySem.W.Fast.tw16686379717429711852 : Nat := 0
def PySem.W.Fast.tw17630375991319488396 : Nat := 0
def PySem.W.Fast.tw7881563459567203364 : Nat := 0
def PySem.W.Fast.tw13994740961346365643 : Nat := 0
def PySem.W.Fast.tw3751661132667400509 : Nat := 0
def PySem.W.Fast.tw8804266719711502392 : Nat := 0
def PySem.W.Fast.tw3178420049259993169 : Nat := 0
def PySem.W.Fast.tw575760451252540106 : Nat := 0
def PySem.W.Fast.tw2429774787340285018 : Nat := 0
def PySem.W.Fast.tw10734054356404577861 : Nat := 0
def PySem.W.Fast.tw7327157044794290486 : Nat := 0
def PySem.W.Fast.tw6901495140127333927 : Nat := 0
def PySem.W.Fast.tw8451671153055762095 : Nat := 0
def PySem.W.Fast.tw10185071602789551411 : Nat := 0
def PySem.W.Fast.tw5932663570633427301 : Nat := 0
def PySem.W.Fast.tw1765983311059770010 : Nat := 0
def PySem.W.Fast.tw5113081701842199094 : Nat := 0
def PySem.W.Fast.tw874569898454404060 : Nat := 0
def PySem.W.Fast.tw10872702028643822561 : Nat := 0
def PySem.W.Fast.tw15721389905797674445 : Nat := 0
def PySem.W.Fast.tw7400338452722730362 : Nat := 0
def PySem.W.Fast.tw2556337647985830209 : Nat := 0
def PySem.W.Fast.tw17460032910512621666 : Nat := 0
def PySem.W.Fast.tw2660400263040138573 : Nat := 0
def PySem.W.Fast.tw220195465032670524 : Nat := 0
def PySem.W.Fast.tw17753524456656594422 : Nat := 0
def PySem.W.Fast.tw6173868970592093091 : Nat := 0
def PySem.W.Fast.tw16932660581870125076 : Nat := 0
def PySem.W.Fast.tw738089381843835213 : Nat := 0
def PySem.W.Fast.tw8728647553319617683 : Nat := 0
def PySem.W.Fast.tw5543843054881914034 : Nat := 0
def PySem.W.Fast.tw7884624344452920237 : Nat := 0
def PySem.W.Fast.tw5109251652263237910 : Nat := 0
def PySem.W.Fast.tw3619386707423501805 : Nat := 0
def PySem.W.Fast.tw6267149660203326567 : Nat := 0
def PySem.W.Fast.tw8246790911587964859 : Nat := 0
def PySem.W.Fast.tw5233360996175904985 : Nat := 0
def PySem.W.Fast.tw15124512262428346678 : Nat := 0
def PySem.W.Fast.tw9247382222215057436 : Nat := 0
def PySem.W.Fast.tw10250911916549354407 : Nat := 0
def PySem.W.Fast.tw10517721183361883858 : Nat := 0
def PySem.W.Fast.tw615135024694335264 : Nat := 0
def PySem.W.Fast.tw15674756638880066718 : Nat := 0
def PySem.W.Fast.tw3231221538912383025 : Nat := 0
def PySem.W.Fast.tw8220491214157419511 : Nat := 0
def PySem.W.Fast.tw13244976171189881904 : Nat := 0
def PySem.W.Fast.tw4539821291440669887 : Nat := 0
def PySem.W.Fast.tw7133470459793975492 : Nat := 0
def PySem.W.Fast.tw3439763693674424302 : Nat := 0
def PySem.W.Fast.tw16997074664528777863 : Nat := 0
def PySem.W.Fast.tw9903776649876288168 : Nat := 0
def PySem.W.Fast.tw13819446090860728854 : Nat := 0
def PySem.W.Fast.tw7147604067929665951 : Nat := 0
def PySem.W.Fast.tw13368951792160447606 : Nat := 0
def PySem.W.Fast.tw15810293312166717257 : Nat := 0
def PySem.W.Fast.tw6326893436553291827 : Nat := 0
def PySem.W.Fast.tw5136356504614789274 : Nat := 0
def PySem.W.Fast.tw2511668435850114242 : Nat := 0
def PySem.W.Fast.tw5449058648661815411 : Nat := 0
def PySem.W.Fast.tw11756174884457136334 : Nat := 0
def PySem.W.Fast.tw12223524858890974586 : Nat := 0
def PySem.W.Fast.tw1864428642678475234 : Nat := 0
def PySem.W.Fast.tw10184512886571128423 : Nat := 0
def PySem.W.Fast.tw14728878301670658650 : Nat := 0
def PySem.W.Fast.tw8533420595134204878 : Nat := 0
def PySem.W.Fast.tw4983881566326808199 : Nat := 0
def PySem.W.Fast.tw10335300304744742582 : Nat := 0
def PySem.W.Fast.tw3622146167659087978 : Nat := 0
def PySem.W.Fast.tw13014956309155258659 : Nat := 0
def PySem.W.Fast.tw13535183091583400914 : Nat := 0
def PySem.W.Fast.tw8137270812411726498 : Nat := 0
def PySem.W.Fast.tw3385448663550003068 : Nat := 0
def PySem.W.Fast.tw3314798310951957669 : Nat := 0
def PySem.W.Fast.tw7686493772798630248 : Nat := 0
def PySem.W.Fast.tw8461800409000631614 : Nat := 0
def PySem.W.Fast.tw5270294032471750908 : Nat := 0
def PySem.W.Fast.tw2125697860012360786 : Nat := 0
def PySem.W.Fast.tw18004715029381253157 : Nat := 0
def PySem.W.Fast.tw6580739603810597507 : Nat := 0
def PySem.W.Fast.tw10550148564898161537 : Nat := 0
def PySem.W.Fast.tw8140243078111634477 : Nat := 0
def PySem.W.Fast.tw17034939627889457488 : Nat := 0
def PySem.W.Fast.tw4121655851499377373 : Nat := 0
def PySem.W.Fast.tw16374742843241006135 : Nat := 0
def PySem.W.Fast.tw10005130609130221979 : Nat := 0
def PySem.W.Fast.tw911775868526243151 : Nat := 0
def PySem.W.Fast.tw1576452796296270382 : Nat := 0
def PySem.W.Fast.tw15907487892386696134 : Nat := 0
def PySem.W.Fast.tw14366947954060204098 : Nat := 0
def PySem.W.Fast.tw6459131226439194960 : Nat := 0
def PySem.W.Fast.tw16380086468614065361 : Nat := 0
def PySem.W.Fast.tw5994517616644214830 : Nat := 0
def PySem.W.Fast.tw14041993251553245373 : Nat := 0
def PySem.W.Fast.tw10276650628058238016 : Nat := 0
def PySem.W.Fast.tw288927108537435935 : Nat := 0
def PySem.W.Fast.tw3740195572723587561 : Nat := 0
def PySem.W.Fast.tw1089784321154090524 : Nat := 0
def PySem.W.Fast.tw11524315345153636156 : Nat := 0
def PySem.W.Fast.tw14191765854488194968 : Nat := 0
def PySem.W.Fast.tw343468724375280964 : Nat := 0
def PySem.W.Fast.tw821931944227610736 : Nat := 0
def PySem.W.Fast.tw17944279613841357655 : Nat := 0
def PySem.W.Fast.tw13987714058440477210 : Nat := 0
def PySem.W.Fast.tw7655338466932933770 : Nat := 0
def PySem.W.Fast.tw6756998433654743523 : Nat := 0
def PySem.W.Fast.tw9609962984337707147 : Nat := 0
def PySem.W.Fast.tw18065983379254403627 : Nat := 0
def PySem.W.Fast.tw16820270319309692147 : Nat := 0
def PySem.W.Fast.tw11171716448543696141 : Nat := 0
def PySem.W.Fast.tw6413997605250592488 : Nat := 0
def PySem.W.Fast.tw15829353096461508971 : Nat := 0
def PySem.W.Fast.tw1953615796935514953 : Nat := 0
def PySem.W.Fast.tw7275667585804830215 : Nat := 0
def PySem.W.Fast.tw13229789370230236165 : Nat := 0
def PySem.W.Fast.tw9539981703643280897 : Nat := 0
def PySem.W.Fast.tw12865177243842417340 : Nat := 0
def PySem.W.Fast.tw16880438582626845896 : Nat := 0
def PySem.W.Fast.tw15608554756379518448 : Nat := 0
def PySem.W.Fast.tw8207155785922753711 : Nat := 0
def PySem.W.Fast.tw5662142092258695943 : Nat := 0
def PySem.W.Fast.tw1884866743068480165 : Nat := 0
def PySem.W.Fast.tw3672601050867498386 : Nat := 0
def PySem.W.Fast.tw15531088276374481254 : Nat := 0
def PySem.W.Fast.tw14613688113392793748 : Nat := 0
def PySem.W.Fast.tw11629774217022557661 : Nat := 0
def PySem.W.Fast.tw9866780609998002036 : Nat := 0
def PySem.W.Fast.tw3222665283343965224 : Nat := 0
def PySem.W.Fast.tw13212275133110312146 : Nat := 0
def PySem.W.Fast.tw17119398342681680410 : Nat := 0
def PySem.W.Fast.tw11450700083031447163 : Nat := 0
def PySem.W.Fast.tw12878954868432681044 : Nat := 0
def PySem.W.Fast.tw7198952080585266735 : Nat := 0
def PySem.W.Fast.tw4979578652765322640 : Nat := 0
def PySem.W.Fast.tw18323136899920660101 : Nat := 0
def PySem.W.Fast.tw1592184330731852281 : Nat := 0
def PySem.W.Fast.tw10707476858694900173 : Nat := 0
def PySem.W.Fast.tw4825816705534492152 : Nat := 0
def PySem.W.Fast.tw12049833620673698328 : Nat := 0
def PySem.W.Fast.tw10473604361053851134 : Nat := 0
def PySem.W.Fast.tw4610509478384672477 : Nat := 0
def PySem.W.Fast.tw7420508533311876883 : Nat := 0
def PySem.W.Fast.tw14010407939013772804 : Nat := 0
def PySem.W.Fast.tw4935786265728839370 : Nat := 0
def PySem.W.Fast.tw3507197991256854430 : Nat := 0
def PySem.W.Fast.tw9917364226778410334 : Nat := 0
def PySem.W.Fast.tw11142439770877516677 : Nat := 0
def PySem.W.Fast.tw8538290444637833569 : Nat := 0
def PySem.W.Fast.tw6538711744893583269 : Nat := 0
def PySem.W.Fast.tw1069447358420151255 : Nat := 0
def PySem.W.Fast.tw8132361200019569215 : Nat := 0
def PySem.W.Fast.tw7133898005150117004 : Nat := 0
def PySem.W.Fast.tw11242400521108987191 : Nat := 0
def PySem.W.Fast.tw9581249490172502924 : Nat := 0
def PySem.W.Fast.tw1325881526175808572 : Nat := 0
def PySem.W.Fast.tw4526779269268679450 : Nat := 0
def PySem.W.Fast.tw14355805529907551040 : Nat := 0
def PySem.W.Fast.tw15004889043895390891 : Nat := 0
def PySem.W.Fast.tw10703242571530815593 : Nat := 0
def PySem.W.Fast.tw6445644119957405866 : Nat := 0
def PySem.W.Fast.tw6131067225442862777 : Nat := 0
def PySem.W.Fast.tw5480013895834498750 : Nat := 0
def PySem.W.Fast.tw13968802228009382546 : Nat := 0
def PySem.W.Fast.tw18328318981533958799 : Nat := 0
def PySem.W.Fast.tw18083900062199100157 : Nat := 0
def PySem.W.Fast.tw1349832274369391941 : Nat := 0
def PySem.W.Fast.tw5885730194522886107 : Nat := 0
def PySem.W.Fast.tw3588692584618751202 : Nat := 0
def PySem.W.Fast.tw11619375634627305901 : Nat := 0
def PySem.W.Fast.tw998375255210103338 : Nat := 0
def PySem.W.Fast.tw11688648399555274823 : Nat := 0
def PySem.W.Fast.tw360542547354602984 : Nat := 0
def PySem.W.Fast.tw13509656666538575928 : Nat := 0
def PySem.W.Fast.tw4831683333013121000 : Nat := 0
def PySem.W.Fast.tw15929751947847582466 : Nat := 0
def PySem.W.Fast.tw10200140302175783578 : Nat := 0
def PySem.W.Fast.tw1775344242086927658 : Nat := 0
def PySem.W.Fast.tw2296104724869212504 : Nat := 0
def PySem.W.Fast.tw8357268869585810078 : Nat := 0
def PySem.W.Fast.tw12921389485587205777 : Nat := 0
def PySem.W.Fast.tw11612711670273302955 : Nat := 0
def PySem.W.Fast.tw16742539137786222262 : Nat := 0
def PySem.W.Fast.tw6124610729676506910 : Nat := 0
def PySem.W.Fast.tw16310879132005239437 : Nat := 0
def PySem.W.Fast.tw16332204376379601261 : Nat := 0
def PySem.W.Fast.tw4176289147145542025 : Nat := 0
def PySem.W.Fast.tw9272081469487322827 : Nat := 0
def PySem.W.Fast.tw7887821455525196717 : Nat := 0
def PySem.W.Fast.tw9029035626468099445 : Nat := 0
def PySem.W.Fast.tw6414386339296650054 : Nat := 0
def PySem.W.Fast.tw11390009463787094806 : Nat := 0
def PySem.W.Fast.tw14458306331119828953 : Nat := 0
def PySem.W.Fast.tw5287282224812246932 : Nat := 0
def PySem.W.Fast.tw1582889485426754562 : Nat := 0
def PySem.W.Fast.tw18222084015469278931 : Nat := 0
def PySem.W.Fast.tw5524516795806489473 : Nat := 0
def PySem.W.Fast.tw11191504307198227228 : Nat := 0
def PySem.W.Fast.tw13982818868960864887 : Nat := 0
def PySem.W.Fast.tw16130032068987288209 : Nat := 0
def PySem.W.Fast.tw13836212479140708438 : Nat := 0
def PySem.W.Fast.tw17776775748230681248 : Nat := 0
def PySem.W.Fast.tw15619191942874015692 : Nat := 0
def PySem.W.Fast.tw17238326309827511357 : Nat := 0
def PySem.W.Fast.tw2239438012782527303 : Nat := 0
def PySem.W.Fast.tw8974050248666189200 : Nat := 0
def PySem.W.Fast.tw9952891612184868778 : Nat := 0
def PySem.W.Fast.tw10818477668661645989 : Nat := 0
def PySem.W.Fast.tw4612502163788880230 : Nat := 0
def PySem.W.Fast.tw5742309145392596045 : Nat := 0
def PySem.W.Fast.tw14201324541656091386 : Nat := 0
def PySem.W.Fast.tw5291899611148545160 : Nat := 0
def PySem.W.Fast.tw7694428799860511689 : Nat := 0
def PySem.W.Fast.tw3225413562385296413 : Nat := 0
def PySem.W.Fast.tw3399161064611428163 : Nat := 0
def PySem.W.Fast.tw6754016745369168674 : Nat := 0
def PySem.W.Fast.tw4620428427433269542 : Nat := 0
def PySem.W.Fast.tw10621449767441792744 : Nat := 0
def PySem.W.Fast.tw17387555461065349791 : Nat := 0
def PySem.W.Fast.tw7261429131293575988 : Nat := 0
def PySem.W.Fast.tw872114636505985749 : Nat := 0
def PySem.W.Fast.tw18240647853056547256 : Nat := 0
def PySem.W.Fast.tw9986265900905948251 : Nat := 0
def PySem.W.Fast.tw14875327698502581079 : Nat := 0
def PySem.W.Fast.tw4143011152206390842 : Nat := 0
def PySem.W.Fast.tw10597292425051126035 : Nat := 0
def PySem.W.Fast.tw15055223240684311378 : Nat := 0
def PySem.W.Fast.tw18176815516038955058 : Nat := 0
def PySem.W.Fast.tw11802290431294802708 : Nat := 0
def PySem.W.Fast.tw8005230853295041803 : Nat := 0
def PySem.W.Fast.tw11076931173149556071 : Nat := 0
def PySem.W.Fast.tw15649834389914355870 : Nat := 0
def PySem.W.Fast.tw1406102357840782838 : Nat := 0
def PySem.W.Fast.tw5636430740736448700 : Nat := 0
def PySem.W.Fast.tw14904260515337655057 : Nat := 0
def PySem.W.Fast.tw1358739641878897829 : Nat := 0
def PySem.W.Fast.tw14946904261076963226 : Nat := 0
def PySem.W.Fast.tw9946765185957376036 : Nat := 0
def PySem.W.Fast.tw7098580180733321905 : Nat := 0
def PySem.W.Fast.tw8233561456347619410 : Nat := 0
def PySem.W.Fast.tw10992285412866819630 : Nat := 0
def PySem.W.Fast.tw281579455950672037 : Nat := 0
def PySem.W.Fast.tw8401924179623826959 : Nat := 0
def PySem.W.Fast.tw15999969913043890395 : Nat := 0
def PySem.W.Fast.tw17832910779353426273 : Nat := 0
def PySem.W.Fast.tw6028289977265640692 : Nat := 0
def PySem.W.Fast.tw10075054061767622684 : Nat := 0
def PySem.W.Fast.tw13098425376291316245 : Nat := 0
def PySem.W.Fast.tw9709262314670522313 : Nat := 0
def PySem.W.Fast.tw4259654088851043197 : Nat := 0
def PySem.W.Fast.tw14364222610265330988 : Nat := 0
def PySem.W.Fast.tw16815202939910418394 : Nat := 0
def PySem.W.Fast.tw2257776115404279168 : Nat := 0
def PySem.W.Fast.tw1887089339898564115 : Nat := 0
def PySem.W.Fast.tw15436138453525870324 : Nat := 0
def PySem.W.Fast.tw10599551310966707765 : Nat := 0
def PySem.W.Fast.tw17997314661794878485 : Nat := 0
def PySem.W.Fast.tw14874368015581145847 : Nat := 0
def PySem.W.Fast.tw9471293498037841826 : Nat := 0
def PySem.W.Fast.tw3056899242113608520 : Nat := 0
def PySem.W.Fast.tw587301790622849760 : Nat := 0
def PySem.W.Fast.tw11053673897839440540 : Nat := 0
def PySem.W.Fast.tw13018628802525709697 : Nat := 0
def PySem.W.Fast.tw17417579030168674747 : Nat := 0
def PySem.W.Fast.tw4193148493021152388 : Nat := 0
def PySem.W.Fast.tw12939071544137878953 : Nat := 0
def PySem.W.Fast.tw14976964958260853330 : Nat := 0
def PySem.W.Fast.tw14061019522350052908 : Nat := 0
def PySem.W.Fast.tw12867875511195040753 : Nat := 0
def PySem.W.Fast.tw16417534008475373282 : Nat := 0
def PySem.W.Fast.tw16393815722873578315 : Nat := 0
def PySem.W.Fast.tw4976669170921660079 : Nat := 0
def PySem.W.Fast.tw5834208914872637516 : Nat := 0
def PySem.W.Fast.tw6129060761215442886 : Nat := 0
def PySem.W.Fast.tw14866837141478395993 : Nat := 0
def PySem.W.Fast.tw6718740478656856116 : Nat := 0
def PySem.W.Fast.tw4274709690319483983 : Nat := 0
def PySem.W.Fast.tw14049628445398416100 : Nat := 0
def PySem.W.Fast.tw17458924378756825006 : Nat := 0
def PySem.W.Fast.tw12712194277055925186 : Nat := 0
def PySem.W.Fast.tw18241364418131641794 : Nat := 0
def PySem.W.Fast.tw15901770768911848076 : Nat := 0
def PySem.W.Fast.tw206869518644286483 : Nat := 0
def PySem.W.Fast.tw12598907421769428956 : Nat := 0
def PySem.W.Fast.tw10415784669858474994 : Nat := 0
def PySem.W.Fast.tw16376592228918803172 : Nat := 0
def PySem.W.Fast.tw6807992471709920416 : Nat := 0
def PySem.W.Fast.tw7547049348928744780 : Nat := 0
def PySem.W.Fast.tw17182135986691976797 : Nat := 0
def PySem.W.Fast.tw14048392750805540304 : Nat := 0
def PySem.W.Fast.tw14194725902970759486 : Nat := 0
def PySem.W.Fast.tw3972627974311702660 : Nat := 0
def PySem.W.Fast.tw10988186339896643971 : Nat := 0
def PySem.W.Fast.tw14546193072069538809 : Nat := 0
def PySem.W.Fast.tw12901827652601520893 : Nat := 0
def PySem.W.Fast.tw2785718112356455022 : Nat := 0
def PySem.W.Fast.tw12613312077218882814 : Nat := 0
def PySem.W.Fast.tw11782903693315448947 : Nat := 0
def PySem.W.Fast.tw16187201081999449444 : Nat := 0
def PySem.W.Fast.tw4694926700767415882 : Nat := 0
def PySem.W.Fast.tw16324908186573692468 : Nat := 0
def PySem.W.Fast.tw5643902458522413541 : Nat := 0
def PySem.W.Fast.tw15302653458030427146 : Nat := 0
def PySem.W.Fast.tw6474841834084472943 : Nat := 0
def PySem.W.Fast.tw13635828203423395953 : Nat := 0
def PySem.W.Fast.tw18210392048344646002 : Nat := 0
def PySem.W.Fast.tw6807428846104652693 : Nat := 0
def PySem.W.Fast.tw5986003768911130910 : Nat := 0
def PySem.W.Fast.tw7751179528631549896 : Nat := 0
def PySem.W.Fast.tw13849373143878642407 : Nat := 0
def PySem.W.Fast.tw14108264980881348833 : Nat := 0
def PySem.W.Fast.tw4766433703012848513 : Nat := 0
def PySem.W.Fast.tw6699434396766773697 : Nat := 0
def PySem.W.Fast.tw15038057529558980201 : Nat := 0
def PySem.W.Fast.tw12460993158838174541 : Nat := 0
def PySem.W.Fast.tw16270822367087863550 : Nat := 0
def PySem.W.Fast.tw9089558608383907943 : Nat := 0
def PySem.W.Fast.tw1085409341328108470 : Nat := 0
def PySem.W.Fast.tw8637462782824379341 : Nat := 0
def PySem.W.Fast.tw1003969530429342870 : Nat := 0
def PySem.W.Fast.tw16711627068392145831 : Nat := 0
def PySem.W.Fast.tw17894799769168819762 : Nat := 0
def PySem.W.Fast.tw6305809015552375101 : Nat := 0
def PySem.W.Fast.tw8766526124830436034 : Nat := 0
def PySem.W.Fast.tw10950220921836402008 : Nat := 0
def PySem.W.Fast.tw9401013014604709189 : Nat := 0
def PySem.W.Fast.tw5289050429140452829 : Nat := 0
def PySem.W.Fast.tw8262129936526384598 : Nat := 0
def PySem.W.Fast.tw12146836146972682518 : Nat := 0
def PySem.W.Fast.tw12702384515426141236 : Nat := 0
def PySem.W.Fast.tw4478460373655703909 : Nat := 0
def PySem.W.Fast.tw3697927460949942000 : Nat := 0
def PySem.W.Fast.tw5234193985356082036 : Nat := 0
def PySem.W.Fast.tw16159163903618715352 : Nat := 0
def PySem.W.Fast.tw1899633903692233619 : Nat := 0
def PySem.W.Fast.tw9263258311210484800 : Nat := 0
def PySem.W.Fast.tw12400284343687646818 : Nat := 0
def PySem.W.Fast.tw981135254154680454 : Nat := 0
def PySem.W.Fast.tw3919817673418441637 : Nat := 0
def PySem.W.Fast.tw18039080273139743295 : Nat := 0
def PySem.W.Fast.tw511333544621700925 : Nat := 0
def PySem.W.Fast.tw1113253993430434736 : Nat := 0
def PySem.W.Fast.tw10419122789731242208 : Nat := 0
def PySem.W.Fast.tw6237544619935464975 : Nat := 0
def PySem.W.Fast.tw2766857100190538731 : Nat := 0
def PySem.W.Fast.tw879764124404029030 : Nat := 0
def PySem.W.Fast.tw2343065726214392378 : Nat := 0
def PySem.W.Fast.tw6216679786082839116 : Nat := 0
def PySem.W.Fast.tw448297626280886898 : Nat := 0
def PySem.W.Fast.tw9545159264999403943 : Nat := 0
def PySem.W.Fast.tw13212059251400056557 : Nat := 0
def PySem.W.Fast.tw6964506591138487740 : Nat := 0
def PySem.W.Fast.tw14176227587016529996 : Nat := 0
def PySem.W.Fast.tw8757823081325495621 : Nat := 0
def PySem.W.Fast.tw8784972663810459906 : Nat := 0
def PySem.W.Fast.tw3576556460245287199 : Nat := 0
def PySem.W.Fast.tw2432762651478579331 : Nat := 0
def PySem.W.Fast.tw16258569364752956283 : Nat := 0
def PySem.W.Fast.tw9864880331706821521 : Nat := 0
def PySem.W.Fast.tw537414184876197847 : Nat := 0
def PySem.W.Fast.tw9802632752167464541 : Nat := 0
def PySem.W.Fast.tw15114639075621739232 : Nat := 0
def PySem.W.Fast.tw12890479871109706103 : Nat := 0
def PySem.W.Fast.tw13956170147961323177 : Nat := 0
def PySem.W.Fast.tw17962179670235129260 : Nat := 0
def PySem.W.Fast.tw13966128246221400172 : Nat := 0
def PySem.W.Fast.tw16646157816147752731 : Nat := 0
def PySem.W.Fast.tw10333468212062043534 : Nat := 0
def PySem.W.Fast.tw16335515847990587953 : Nat := 0
def PySem.W.Fast.tw7121696854076454541 : Nat := 0
def PySem.W.Fast.tw233036640739964286 : Nat := 0
def PySem.W.Fast.tw734005405161977217 : Nat := 0
def PySem.W.Fast.tw11320297833962295347 : Nat := 0
def PySem.W.Fast.tw7929370515046097299 : Nat := 0
def PySem.W.Fast.tw5031412084076841505 : Nat := 0
def PySem.W.Fast.tw15407186674081071599 : Nat := 0
def PySem.W.Fast.tw4456186583635778980 : Nat := 0
def PySem.W.Fast.tw13376285110079477599 : Nat := 0
def PySem.W.Fast.tw9096448884600996322 : Nat := 0
def PySem.W.Fast.tw2799684064397826159 : Nat := 0
def PySem.W.Fast.tw10360295134517275132 : Nat := 0
def PySem.W.Fast.tw5016609461553401198 : Nat := 0
def PySem.W.Fast.tw15593549341191348081 : Nat := 0
def PySem.W.Fast.tw10834222941951071937 : Nat := 0
def PySem.W.Fast.tw7822065912541011882 : Nat := 0
def PySem.W.Fast.tw5228656357949707166 : Nat := 0
def PySem.W.Fast.tw15406834405938932022 : Nat := 0
def PySem.W.Fast.tw7070203238964755108 : Nat := 0
def PySem.W.Fast.tw2634744746974470302 : Nat := 0
def PySem.W.Fast.tw11842783038054097827 : Nat := 0
def PySem.W.Fast.tw13083602219518875914 : Nat := 0
def PySem.W.Fast.tw11525127440083175992 : Nat := 0
def PySem.W.Fast.tw1296013613622479527 : Nat := 0
def PySem.W.Fast.tw8256543388573036119 : Nat := 0
def PySem.W.Fast.tw5305959105317561995 : Nat := 0
def PySem.W.Fast.tw12440089038358292167 : Nat := 0
def PySem.W.Fast.tw8698723783249968183 : Nat := 0
def PySem.W.Fast.tw13002737327980992152 : Nat := 0
def PySem.W.Fast.tw17719467737663674007 : Nat := 0
def PySem.W.Fast.tw4397540064898082961 : Nat := 0
def PySem.W.Fast.tw4994798592938466856 : Nat := 0
def PySem.W.Fast.tw18397348562104085165 : Nat := 0
def PySem.W.Fast.tw298171468661344801 : Nat := 0
def PySem.W.Fast.tw6400746175555593268 : Nat := 0
def PySem.W.Fast.tw18007362607715585158 : Nat := 0
def PySem.W.Fast.tw3401929680870519850 : Nat := 0
def PySem.W.Fast.tw854199355053079922 : Nat := 0
def PySem.W.Fast.tw2566777688665133563 : Nat := 0
def PySem.W.Fast.tw4760873120973782470 : Nat := 0
def PySem.W.Fast.tw8124567188083140480 : Nat := 0
def PySem.W.Fast.tw10569831098271581836 : Nat := 0
def PySem.W.Fast.tw1329442952684771454 : Nat := 0
def PySem.W.Fast.tw8365929042911821454 : Nat := 0
def PySem.W.Fast.tw1032610312912941680 : Nat := 0
def PySem.W.Fast.tw1437883716443182039 : Nat := 0
def PySem.W.Fast.tw16871898423692811237 : Nat := 0
def PySem.W.Fast.tw5464671832722538191 : Nat := 0
def PySem.W.Fast.tw14949803613674079450 : Nat := 0
def PySem.W.Fast.tw12732164235468464680 : Nat := 0
def PySem.W.Fast.tw5714286782853987549 : Nat := 0
def PySem.W.Fast.tw16514810451729648621 : Nat := 0
def PySem.W.Fast.tw2199929929845468892 : Nat := 0
def PySem.W.Fast.tw4735758270297687827 : Nat := 0
def PySem.W.Fast.tw2631432587468271320 : Nat := 0
def PySem.W.Fast.tw13002034248849121750 : Nat := 0
def PySem.W.Fast.tw2547784524039168607 : Nat := 0
def PySem.W.Fast.tw4409192008665552279 : Nat := 0
def PySem.W.Fast.tw5678064260182519800 : Nat := 0
def PySem.W.Fast.tw5076081110026073152 : Nat := 0
def PySem.W.Fast.tw6949373698513247289 : Nat := 0
def PySem.W.Fast.tw5814578740439483149 : Nat := 0
def PySem.W.Fast.tw13864285333386896430 : Nat := 0
def PySem.W.Fast.tw7410010415115208137 : Nat := 0
def PySem.W.Fast.tw3681950347419303560 : Nat := 0
def PySem.W.Fast.tw1252213954455337579 : Nat := 0
def PySem.W.Fast.tw7050672880128492606 : Nat := 0
def PySem.W.Fast.tw5127342663826057827 : Nat := 0
def PySem.W.Fast.tw6056683037001484673 : Nat := 0
def PySem.W.Fast.tw16067496940539585767 : Nat := 0
def PySem.W.Fast.tw9189164115592727946 : Nat := 0
def PySem.W.Fast.tw9626009445563859169 : Nat := 0
def PySem.W.Fast.tw2563579136052647642 : Nat := 0
def PySem.W.Fast.tw8678718132931559573 : Nat := 0
def PySem.W.Fast.tw9316072298362341776 : Nat := 0
def PySem.W.Fast.tw2070275867972208775 : Nat := 0
def PySem.W.Fast.tw8529547999549959665 : Nat := 0
def PySem.W.Fast.tw15729887455074561028 : Nat := 0
def PySem.W.Fast.tw9382381941895913301 : Nat := 0
def PySem.W.Fast.tw12554484410746532436 : Nat := 0
def PySem.W.Fast.tw15402523694427069536 : Nat := 0
def PySem.W.Fast.tw4501081875716990526 : Nat := 0
def PySem.W.Fast.tw1405273663159951151 : Nat := 0
def PySem.W.Fast.tw13814058989732452456 : Nat := 0
def PySem.W.Fast.tw6830496890288149868 : Nat := 0
def PySem.W.Fast.tw14159539428867147769 : Nat := 0
def PySem.W.Fast.tw8793027365099804027 : Nat := 0
def PySem.W.Fast.tw11589655527909288778 : Nat := 0
def PySem.W.Fast.tw18258762978914671135 : Nat := 0
def PySem.W.Fast.tw14181792208869112467 : Nat := 0
def PySem.W.Fast.tw15180866151495875974 : Nat := 0
def PySem.W.Fast.tw5856096362059930630 : Nat := 0
def PySem.W.Fast.tw807806461996071298 : Nat := 0
def PySem.W.Fast.tw12058086123335314561 : Nat := 0
def PySem.W.Fast.tw5500598514905048750 : Nat := 0
def PySem.W.Fast.tw5339379764552553217 : Nat := 0
def PySem.W.Fast.tw7811819275846251711 : Nat := 0
def PySem.W.Fast.tw12947926119576305045 : Nat := 0
def PySem.W.Fast.tw12653192000508817124 : Nat := 0
def PySem.W.Fast.tw11734723829083876012 : Nat := 0
def PySem.W.Fast.tw13834444858877320302 : Nat := 0
def PySem.W.Fast.tw17011790263068260581 : Nat := 0
def PySem.W.Fast.tw7321620763919071787 : Nat := 0
def PySem.W.Fast.tw4987285244941501062 : Nat := 0
def PySem.W.Fast.tw4000089489497778483 : Nat := 0
def PySem.W.Fast.tw13251758021384673450 : Nat := 0
def PySem.W.Fast.tw10485164659666399068 : Nat := 0
def PySem.W.Fast.tw1908641760136732840 : Nat := 0
def PySem.W.Fast.tw10271884147835399346 : Nat := 0
def PySem.W.Fast.tw1503589638441871017 : Nat := 0
def PySem.W.Fast.tw11376057751606106414 : Nat := 0
def PySem.W.Fast.tw1470936139733128937 : Nat := 0
def PySem.W.Fast.tw12788580283536600147 : Nat := 0
def PySem.W.Fast.tw7759994960227113747 : Nat := 0
def PySem.W.Fast.tw3400229118656394469 : Nat := 0
def PySem.W.Fast.tw432735457308107336 : Nat := 0
def PySem.W.Fast.tw17784266266799927093 : Nat := 0
def PySem.W.Fast.tw15848382990080121218 : Nat := 0
def PySem.W.Fast.tw2524787115823542107 : Nat := 0
def PySem.W.Fast.tw1077109840747895766 : Nat := 0
def PySem.W.Fast.tw1043203285225700258 : Nat := 0
def PySem.W.Fast.tw1170887471545260548 : Nat := 0
def PySem.W.Fast.tw4922236913147253442 : Nat := 0
def PySem.W.Fast.tw8450675187662154713 : Nat := 0
def PySem.W.Fast.tw15244251098787730225 : Nat := 0
def PySem.W.Fast.tw17111299736734224697 : Nat := 0
def PySem.W.Fast.tw12740830417476994175 : Nat := 0
def PySem.W.Fast.tw8445093410395392563 : Nat := 0
def PySem.W.Fast.tw11237551579307764622 : Nat := 0
def PySem.W.Fast.tw13668539960035232752 : Nat := 0
def PySem.W.Fast.tw6588742489824193406 : Nat := 0
def PySem.W.Fast.tw10838296498910762777 : Nat := 0
def PySem.W.Fast.tw3844103705980386180 : Nat := 0
def PySem.W.Fast.tw7694154891831443431 : Nat := 0
def PySem.W.Fast.tw6821836109078489412 : Nat := 0
def PySem.W.Fast.tw1044037980756282405 : Nat := 0
def PySem.W.Fast.tw7912465061813105077 : Nat := 0
def PySem.W.Fast.tw5471283947457581268 : Nat := 0
def PySem.W.Fast.tw2281688955665509692 : Nat := 0
def PySem.W.Fast.tw17288595539668705595 : Nat := 0
def PySem.W.Fast.tw5152168305874986053 : Nat := 0
def PySem.W.Fast.tw7542645731786445053 : Nat := 0
def PySem.W.Fast.tw446390958442226200 : Nat := 0
def PySem.W.Fast.tw2164858032563488531 : Nat := 0
def PySem.W.Fast.tw832237723148344001 : Nat := 0
def PySem.W.Fast.tw15352700643131568149 : Nat := 0
def PySem.W.Fast.tw13833067072039811104 : Nat := 0
def PySem.W.Fast.tw701361671895197458 : Nat := 0
def PySem.W.Fast.tw5089924938484343062 : Nat := 0
def PySem.W.Fast.tw5156263792772596304 : Nat := 0
def PySem.W.Fast.tw11499387558482115105 : Nat := 0
def PySem.W.Fast.tw6187098598250886482 : Nat := 0
def PySem.W.Fast.tw681331751755965472 : Nat := 0
def PySem.W.Fast.tw13606025968215298297 : Nat := 0
def PySem.W.Fast.tw6770023805722189544 : Nat := 0
def PySem.W.Fast.tw15697109292008665711 : Nat := 0
def PySem.W.Fast.tw13129928086944940967 : Nat := 0
def PySem.W.Fast.tw15920298383095719810 : Nat := 0
def PySem.W.Fast.tw9725869925882176603 : Nat := 0
def PySem.W.Fast.tw3947325393540484816 : Nat := 0
def PySem.W.Fast.tw7022465330681622123 : Nat := 0
def PySem.W.Fast.tw7682673150587566245 : Nat := 0
def PySem.W.Fast.tw15942301183737268179 : Nat := 0
def PySem.W.Fast.tw14784468170870644941 : Nat := 0
def PySem.W.Fast.tw9293291227272551806 : Nat := 0
def PySem.W.Fast.tw1423744903485495580 : Nat := 0
def PySem.W.Fast.tw17643135967348071069 : Nat := 0
def PySem.W.Fast.tw4010856782799133250 : Nat := 0
def PySem.W.Fast.tw3546025294829488939 : Nat := 0
def PySem.W.Fast.tw4645426139822605941 : Nat := 0
def PySem.W.Fast.tw12049255755747338695 : Nat := 0
def PySem.W.Fast.tw5772772446447692581 : Nat := 0
def PySem.W.Fast.tw13215933594325925279 : Nat := 0
def PySem.W.Fast.tw9101071502226999002 : Nat := 0
def PySem.W.Fast.tw960410943729433622 : Nat := 0
def PySem.W.Fast.tw10506703595596416200 : Nat := 0
def PySem.W.Fast.tw14050164526328101725 : Nat := 0
def PySem.W.Fast.tw5730913504420876842 : Nat := 0
def PySem.W.Fast.tw16200269969350964516 : Nat := 0
def PySem.W.Fast.tw2690043850826546146 : Nat := 0
def PySem.W.Fast.tw15527605356256023585 : Nat := 0
def PySem.W.Fast.tw4876063956180007024 : Nat := 0
def PySem.W.Fast.tw9047164576491552350 : Nat := 0
def PySem.W.Fast.tw6970626389908354097 : Nat := 0
def PySem.W.Fast.tw12525909890460104650 : Nat := 0
def PySem.W.Fast.tw15495736401052656245 : Nat := 0
def PySem.W.Fast.tw9341533324497432577 : Nat := 0
def PySem.W.Fast.tw907436940464720194 : Nat := 0
def PySem.W.Fast.tw16273933445494376899 : Nat := 0
def PySem.W.Fast.tw2458969552639913057 : Nat := 0
def PySem.W.Fast.tw4315419212681471822 : Nat := 0
def PySem.W.Fast.tw10607426399047641593 : Nat := 0
def PySem.W.Fast.tw8440582508118213104 : Nat := 0
def PySem.W.Fast.tw16210580686414445614 : Nat := 0
def PySem.W.Fast.tw7620039382993443069 : Nat := 0
def PySem.W.Fast.tw11852384005425366040 : Nat := 0
def PySem.W.Fast.tw9023643037138408805 : Nat := 0
def PySem.W.Fast.tw3089063516541488840 : Nat := 0
def PySem.W.Fast.tw14588271547381525107 : Nat := 0
def PySem.W.Fast.tw1215646578316325720 : Nat := 0
def PySem.W.Fast.tw17653691821775657737 : Nat := 0
def PySem.W.Fast.tw17527779638072545898 : Nat := 0
def PySem.W.Fast.tw9229665427634684244 : Nat := 0
def PySem.W.Fast.tw12222871715074564045 : Nat := 0
def PySem.W.Fast.tw331969353703586331 : Nat := 0
def PySem.W.Fast.tw16604126167753432312 : Nat := 0
def PySem.W.Fast.tw5258811420952908015 : Nat := 0
def PySem.W.Fast.tw10320183249090831038 : Nat := 0
def PySem.W.Fast.tw8062266227053946248 : Nat := 0
def PySem.W.Fast.tw114186516316243274 : Nat := 0
def PySem.W.Fast.tw1587144394648700274 : Nat := 0
def PySem.W.Fast.tw2912359141164347289 : Nat := 0
def PySem.W.Fast.tw2187190066020160839 : Nat := 0
def PySem.W.Fast.tw15186215605495245128 : Nat := 0
def PySem.W.Fast.tw3198496185371057422 : Nat := 0
def PySem.W.Fast.tw7131249443469528198 : Nat := 0
def PySem.W.Fast.tw10497024113031905077 : Nat := 0
def PySem.W.Fast.tw8117337603750793451 : Nat := 0
def PySem.W.Fast.tw4662291236466086707 : Nat := 0
def PySem.W.Fast.tw8064345965835771513 : Nat := 0
def PySem.W.Fast.tw5649682728868050542 : Nat := 0
def PySem.W.Fast.tw10248138491918789552 : Nat := 0
def PySem.W.Fast.tw7327052923013454730 : Nat := 0
def PySem.W.Fast.tw14210918542025920769 : Nat := 0
def PySem.W.Fast.tw17982024107425076946 : Nat := 0
def PySem.W.Fast.tw8174520488592030138 : Nat := 0
def PySem.W.Fast.tw6349113683172459064 : Nat := 0
def PySem.W.Fast.tw12181282521969488177 : Nat := 0
def PySem.W.Fast.tw9869483222558172179 : Nat := 0
def PySem.W.Fast.tw12571976027377803914 : Nat := 0
def PySem.W.Fast.tw14619816680853149236 : Nat := 0
def PySem.W.Fast.tw2623265702602325117 : Nat := 0
def PySem.W.Fast.tw5374548857371857181 : Nat := 0
def PySem.W.Fast.tw9585114442162637584 : Nat := 0
def PySem.W.Fast.tw4322683571215199638 : Nat := 0
def PySem.W.Fast.tw3815469295673537483 : Nat := 0
def PySem.W.Fast.tw15999396096642362729 : Nat := 0
def PySem.W.Fast.tw613193578419939593 : Nat := 0
def PySem.W.Fast.tw12092395041690591781 : Nat := 0
def PySem.W.Fast.tw5533041437741041569 : Nat := 0
def PySem.W.Fast.tw15831405489791277814 : Nat := 0
def PySem.W.Fast.tw769980293186106604 : Nat := 0
def PySem.W.Fast.tw8547883744034447991 : Nat := 0
def PySem.W.Fast.tw239265998559914792 : Nat := 0
def PySem.W.Fast.tw16124314126410623914 : Nat := 0
def PySem.W.Fast.tw12752089212562095934 : Nat := 0
def PySem.W.Fast.tw1403353187214228407 : Nat := 0
def PySem.W.Fast.tw1463274060618002274 : Nat := 0
def PySem.W.Fast.tw7753593381937757522 : Nat := 0
def PySem.W.Fast.tw4085705338575992946 : Nat := 0
def PySem.W.Fast.tw5858183985142683570 : Nat := 0
def PySem.W.Fast.tw9445997050473289179 : Nat := 0
def PySem.W.Fast.tw1602562689961822998 : Nat := 0
def PySem.W.Fast.tw8563183618518359469 : Nat := 0
def PySem.W.Fast.tw13807554318008079849 : Nat := 0
def PySem.W.Fast.tw4697124666644270320 : Nat := 0
def PySem.W.Fast.tw1037585866172649172 : Nat := 0
def PySem.W.Fast.tw18096727656461547690 : Nat := 0
def PySem.W.Fast.tw1478648903382136959 : Nat := 0
def PySem.W.Fast.tw13837693879829213626 : Nat := 0
def PySem.W.Fast.tw10885437977333645563 : Nat := 0
def PySem.W.Fast.tw8770616446377902005 : Nat := 0
def PySem.W.Fast.tw8979492453428011407 : Nat := 0
def PySem.W.Fast.tw14409209552986200312 : Nat := 0
def PySem.W.Fast.tw16213630296726938847 : Nat := 0
def PySem.W.Fast.tw8957657484429969698 : Nat := 0
def PySem.W.Fast.tw7537914632316156458 : Nat := 0
def PySem.W.Fast.tw10418883501992031342 : Nat := 0
def PySem.W.Fast.tw7835542151938203836 : Nat := 0
def PySem.W.Fast.tw7420384247527157346 : Nat := 0
def PySem.W.Fast.tw7531630131870178612 : Nat := 0
def PySem.W.Fast.tw7525632371962020324 : Nat := 0
def PySem.W.Fast.tw12374012138158398747 : Nat := 0
def PySem.W.Fast.tw16875973860616224211 : Nat := 0
def PySem.W.Fast.tw62429863301686332 : Nat := 0
def PySem.W.Fast.tw2802903795120505916 : Nat := 0
def PySem.W.Fast.tw7730018496669495768 : Nat := 0
def PySem.W.Fast.tw12918058071630746310 : Nat := 0
def PySem.W.Fast.tw2437143848317421806 : Nat := 0
def PySem.W.Fast.tw15595661623615398199 : Nat := 0
def PySem.W.Fast.tw14055908114189391278 : Nat := 0
def PySem.W.Fast.tw11697028859330644756 : Nat := 0
def PySem.W.Fast.tw887619033701329134 : Nat := 0
def PySem.W.Fast.tw13561294702856304170 : Nat := 0
def PySem.W.Fast.tw14067527495467617005 : Nat := 0
def PySem.W.Fast.tw5009906575704659872 : Nat := 0
def PySem.W.Fast.tw10735878583711034754 : Nat := 0
def PySem.W.Fast.tw3049120385561833882 : Nat := 0
def PySem.W.Fast.tw14719791144968814664 : Nat := 0
def PySem.W.Fast.tw1136906544111135396 : Nat := 0
def PySem.W.Fast.tw14963857332825484583 : Nat := 0
def PySem.W.Fast.tw18171422431187454539 : Nat := 0
def PySem.W.Fast.tw8672023715367260406 : Nat := 0
def PySem.W.Fast.tw9724987448290560004 : Nat := 0
def PySem.W.Fast.tw8901212844861861048 : Nat := 0
def PySem.W.Fast.tw98442747794758699 : Nat := 0
def PySem.W.Fast.tw18173957073751489333 : Nat := 0
def PySem.W.Fast.tw6023585358471234582 : Nat := 0
def PySem.W.Fast.tw12622158609200364520 : Nat := 0
def PySem.W.Fast.tw13910160686662792763 : Nat := 0
def PySem.W.Fast.tw7785499384672069408 : Nat := 0
def PySem.W.Fast.tw16889552493958169108 : Nat := 0
def PySem.W.Fast.tw10682470779220659300 : Nat := 0
def PySem.W.Fast.tw17114190748592353959 : Nat := 0
def PySem.W.Fast.tw5692429573744063643 : Nat := 0
def PySem.W.Fast.tw10434864187277435629 : Nat := 0
def PySem.W.Fast.tw13170679109503629792 : Nat := 0
def PySem.W.Fast.tw14123452401705932235 : Nat := 0
def PySem.W.Fast.tw15833341733969442902 : Nat := 0
def PySem.W.Fast.tw9779152627224316275 : Nat := 0
def PySem.W.Fast.tw1630781096295513160 : Nat := 0
def PySem.W.Fast.tw13447284107805561931 : Nat := 0
def PySem.W.Fast.tw11949040172069563140 : Nat := 0
def PySem.W.Fast.tw18109456583897068920 : Nat := 0
def PySem.W.Fast.tw904146205980078747 : Nat := 0
def PySem.W.Fast.tw10041286494282566746 : Nat := 0
def PySem.W.Fast.tw16896673681818023755 : Nat := 0
def PySem.W.Fast.tw15018031311993716272 : Nat := 0
def PySem.W.Fast.tw1898774174438995166 : Nat := 0
def PySem.W.Fast.tw779019807315290913 : Nat := 0
def PySem.W.Fast.tw3082218742208799314 : Nat := 0
def PySem.W.Fast.tw5089390721475169250 : Nat := 0
def PySem.W.Fast.tw6963286453753051337 : Nat := 0
def PySem.W.Fast.tw15129169874804986263 : Nat := 0
def PySem.W.Fast.tw14416793786234235556 : Nat := 0
def PySem.W.Fast.tw12395965693756816175 : Nat := 0
def PySem.W.Fast.tw10661582051409020344 : Nat := 0
def PySem.W.Fast.tw8308752237859064033 : Nat := 0
def PySem.W.Fast.tw11160463065923887660 : Nat := 0
def PySem.W.Fast.tw4236255610553913822 : Nat := 0
def PySem.W.Fast.tw9263915472992320731 : Nat := 0
def PySem.W.Fast.tw9742023678866854741 : Nat := 0
def PySem.W.Fast.tw14582625506961708905 : Nat := 0
def PySem.W.Fast.tw1964862423988159254 : Nat := 0
def PySem.W.Fast.tw16460016473854596283 : Nat := 0
def PySem.W.Fast.tw17917200261750025261 : Nat := 0
def PySem.W.Fast.tw13080877824423364387 : Nat := 0
def PySem.W.Fast.tw6135763962437713807 : Nat := 0
def PySem.W.Fast.tw7343904225720854924 : Nat := 0
def PySem.W.Fast.tw844289526432197946 : Nat := 0
def PySem.W.Fast.tw9601748211575206387 : Nat := 0
def PySem.W.Fast.tw8690418159169564522 : Nat := 0
def PySem.W.Fast.tw12706313822086256932 : Nat := 0
def PySem.W.Fast.tw18173689078117628649 : Nat := 0
def PySem.W.Fast.tw4880656302232881295 : Nat := 0
def PySem.W.Fast.tw16125810787081444588 : Nat := 0
def PySem.W.Fast.tw6364090458691265261 : Nat := 0
def PySem.W.Fast.tw7652670470458416562 : Nat := 0
def PySem.W.Fast.tw14914818307614462143 : Nat := 0
def PySem.W.Fast.tw1213236995788761438 : Nat := 0
def PySem.W.Fast.tw2191750421253152822 : Nat := 0
def PySem.W.Fast.tw1885594804238409701 : Nat := 0
def PySem.W.Fast.tw14588520689255863153 : Nat := 0
def PySem.W.Fast.tw7178235751455932262 : Nat := 0
def PySem.W.Fast.tw16153536902480492616 : Nat := 0
def PySem.W.Fast.tw10196855303190346567 : Nat := 0
def PySem.W.Fast.tw15451270996548555354 : Nat := 0
def PySem.W.Fast.tw13858982775968376160 : Nat := 0
def PySem.W.Fast.tw3712156005536253294 : Nat := 0
def PySem.W.Fast.tw9537832878655312531 : Nat := 0
def PySem.W.Fast.tw9331041900999178730 : Nat := 0
def PySem.W.Fast.tw15718614494169007188 : Nat := 0
def PySem.W.Fast.tw14492091046675535144 : Nat := 0
def PySem.W.Fast.tw15925820509398744947 : Nat := 0
def PySem.W.Fast.tw1423087322745271366 : Nat := 0
def PySem.W.Fast.tw5940218001372226939 : Nat := 0
def PySem.W.Fast.tw16640002304113307432 : Nat := 0
def PySem.W.Fast.tw13490006914560018699 : Nat := 0
def PySem.W.Fast.tw8460271177468318884 : Nat := 0
def PySem.W.Fast.tw18285765173205055808 : Nat := 0
def PySem.W.Fast.tw11611561819792069297 : Nat := 0
def PySem.W.Fast.tw4710061683963884762 : Nat := 0
def PySem.W.Fast.tw5930177338733260916 : Nat := 0
def PySem.W.Fast.tw7351165758237103652 : Nat := 0
def PySem.W.Fast.tw17012155315352480333 : Nat := 0
def PySem.W.Fast.tw10368768635851014799 : Nat := 0
def PySem.W.Fast.tw11435333429503380135 : Nat := 0
def PySem.W.Fast.tw3410859283015290433 : Nat := 0
def PySem.W.Fast.tw11437877545838373494 : Nat := 0
def PySem.W.Fast.tw2699620121226425460 : Nat := 0
def PySem.W.Fast.tw11713662502920734620 : Nat := 0
def PySem.W.Fast.tw4817331636742044057 : Nat := 0
def PySem.W.Fast.tw13615325612046187873 : Nat := 0
def PySem.W.Fast.tw16875591005403310632 : Nat := 0
def PySem.W.Fast.tw7113618514811188636 : Nat := 0
def PySem.W.Fast.tw5180752316527334435 : Nat := 0
def PySem.W.Fast.tw14811863498880568037 : Nat := 0
def PySem.W.Fast.tw2313820116382068999 : Nat := 0
def PySem.W.Fast.tw4916830631598135897 : Nat := 0
def PySem.W.Fast.tw7329587079017237722 : Nat := 0
def PySem.W.Fast.tw1889282778750668467 : Nat := 0
def PySem.W.Fast.tw4325791363605128630 : Nat := 0
def PySem.W.Fast.tw8059104028685507473 : Nat := 0
def PySem.W.Fast.tw7538429518367940553 : Nat := 0
def PySem.W.Fast.tw9403587611920467182 : Nat := 0
def PySem.W.Fast.tw17358932003831914284 : Nat := 0
def PySem.W.Fast.tw9264329510554345780 : Nat := 0
def PySem.W.Fast.tw5230285861920208158 : Nat := 0
def PySem.W.Fast.tw4566820176143970084 : Nat := 0
def PySem.W.Fast.tw3540584995188459295 : Nat := 0
def PySem.W.Fast.tw16341519603307155990 : Nat := 0
def PySem.W.Fast.tw513702707086620273 : Nat := 0
def PySem.W.Fast.tw7478796804900247526 : Nat := 0
def PySem.W.Fast.tw7706457080300654444 : Nat := 0
def PySem.W.Fast.tw5619184302846322806 : Nat := 0
def PySem.W.Fast.tw7559545484899072721 : Nat := 0
def PySem.W.Fast.tw15107583517726845830 : Nat := 0
def PySem.W.Fast.tw10486231347625573612 : Nat := 0
def PySem.W.Fast.tw17612310998210723891 : Nat := 0
def PySem.W.Fast.tw11542329451284082695 : Nat := 0
def PySem.W.Fast.tw13286929182015106309 : Nat := 0
def PySem.W.Fast.tw16583579901649098236 : Nat := 0
def PySem.W.Fast.tw8760570524879167233 : Nat := 0
def PySem.W.Fast.tw14511525942361835711 : Nat := 0
def PySem.W.Fast.tw3844753652720548554 : Nat := 0
def PySem.W.Fast.tw10227889652084819988 : Nat := 0
def PySem.W.Fast.tw13974474825331509943 : Nat := 0
def PySem.W.Fast.tw16754427175685939026 : Nat := 0
def PySem.W.Fast.tw16811984179872375057 : Nat := 0
def PySem.W.Fast.tw922943667941432027 : Nat := 0
def PySem.W.Fast.tw2819658783836159150 : Nat := 0
def PySem.W.Fast.tw16014659067972330818 : Nat := 0
def PySem.W.Fast.tw14733641844779484704 : Nat := 0
def PySem.W.Fast.tw4635981856093624193 : Nat := 0
def PySem.W.Fast.tw145440354390578058 : Nat := 0
def PySem.W.Fast.tw5098701633623360486 : Nat := 0
def PySem.W.Fast.tw2495906988523996678 : Nat := 0
def PySem.W.Fast.tw1042991392774331133 : Nat := 0
def PySem.W.Fast.tw8934588975425571820 : Nat := 0
def PySem.W.Fast.tw14572661193224291008 : Nat := 0
def PySem.W.Fast.tw6682460844321495923 : Nat := 0
def PySem.W.Fast.tw2773641037363510329 : Nat := 0
def PySem.W.Fast.tw15472954095521155442 : Nat := 0
def PySem.W.Fast.tw1491086448461496283 : Nat := 0
def PySem.W.Fast.tw13803565125928249237 : Nat := 0
def PySem.W.Fast.tw11201437672656527300 : Nat := 0
def PySem.W.Fast.tw6512171428375588025 : Nat := 0
def PySem.W.Fast.tw12550230006443354008 : Nat := 0
def PySem.W.Fast.tw10300647674775526914 : Nat := 0
def PySem.W.Fast.tw5544385204656946731 : Nat := 0
def PySem.W.Fast.tw17686822292629660498 : Nat := 0
def PySem.W.Fast.tw18356633831893357068 : Nat := 0
def PySem.W.Fast.tw1201601403854092037 : Nat := 0
def PySem.W.Fast.tw6756318677760882670 : Nat := 0
def PySem.W.Fast.tw18099091754199810899 : Nat := 0
def PySem.W.Fast.tw11438110328718752084 : Nat := 0
def PySem.W.Fast.tw2931198021317666115 : Nat := 0
def PySem.W.Fast.tw8013952903151146275 : Nat := 0
def PySem.W.Fast.tw11414036632670390295 : Nat := 0
def PySem.W.Fast.tw16228873901443967079 : Nat := 0
def PySem.W.Fast.tw13245550039671564999 : Nat := 0
def PySem.W.Fast.tw14240061269993533876 : Nat := 0
def PySem.W.Fast.tw2073555943939472554 : Nat := 0
def PySem.W.Fast.tw5790214082336627983 : Nat := 0
def PySem.W.Fast.tw11804657970472153399 : Nat := 0
def PySem.W.Fast.tw11542094156281085601 : Nat := 0
def PySem.W.Fast.tw9098181676407937386 : Nat := 0
def PySem.W.Fast.tw5057560562361629891 : Nat := 0
def PySem.W.Fast.tw4967970746581828014 : Nat := 0
def PySem.W.Fast.tw10732803943405259600 : Nat := 0
def PySem.W.Fast.tw61439821724808293 : Nat := 0
def PySem.W.Fast.tw14902930912646801662 : Nat := 0
def PySem.W.Fast.tw12092811053172116780 : Nat := 0
def PySem.W.Fast.tw5130714464721254462 : Nat := 0
def PySem.W.Fast.tw15727457641627583028 : Nat := 0
def PySem.W.Fast.tw6147324676416822192 : Nat := 0
def PySem.W.Fast.tw17345105526032978461 : Nat := 0
def PySem.W.Fast.tw10953618502952592967 : Nat := 0
def PySem.W.Fast.tw15031332903013133628 : Nat := 0
def PySem.W.Fast.tw22126020430106958 : Nat := 0
def PySem.W.Fast.tw4033705532870625635 : Nat := 0
def PySem.W.Fast.tw7909226696731186578 : Nat := 0
def PySem.W.Fast.tw15677214965026565978 : Nat := 0
def PySem.W.Fast.tw8597348356250170381 : Nat := 0
def PySem.W.Fast.tw15822298920441493638 : Nat := 0
def PySem.W.Fast.tw11527564680382166431 : Nat := 0
def PySem.W.Fast.tw15281196360051446552 : Nat := 0
def PySem.W.Fast.tw13010427179957000541 : Nat := 0
def PySem.W.Fast.tw1122102197286561584 : Nat := 0
def PySem.W.Fast.tw14575971734864593919 : Nat := 0
def PySem.W.Fast.tw2993134893678066131 : Nat := 0
def PySem.W.Fast.tw2840919321540799588 : Nat := 0
def PySem.W.Fast.tw11228263487308895991 : Nat := 0
def PySem.W.Fast.tw8801472124103347799 : Nat := 0
def PySem.W.Fast.tw5796346745142688973 : Nat := 0
def PySem.W.Fast.tw1309616310118842312 : Nat := 0
def PySem.W.Fast.tw3416624409057562724 : Nat := 0
def PySem.W.Fast.tw9228019451124200703 : Nat := 0
def PySem.W.Fast.tw13944686032418467928 : Nat := 0
def PySem.W.Fast.tw3490780196606777083 : Nat := 0
def PySem.W.Fast.tw4394762522850199998 : Nat := 0
def PySem.W.Fast.tw3668254728807146746 : Nat := 0
def PySem.W.Fast.tw14900978732625094796 : Nat := 0
def PySem.W.Fast.tw11930814833523880835 : Nat := 0
def PySem.W.Fast.tw6799659490495588795 : Nat := 0
def PySem.W.Fast.tw10381291040552584160 : Nat := 0
def PySem.W.Fast.tw4414402299794125167 : Nat := 0
def PySem.W.Fast.tw11082262719234466144 : Nat := 0
def PySem.W.Fast.tw11506179921873082684 : Nat := 0
def PySem.W.Fast.tw14426200904449904251 : Nat := 0
def PySem.W.Fast.tw12115505398910207178 : Nat := 0
def PySem.W.Fast.tw13648023152917279276 : Nat := 0
def PySem.W.Fast.tw4168745931145875537 : Nat := 0
def PySem.W.Fast.tw8734507282907319209 : Nat := 0
def PySem.W.Fast.tw2349887400041453467 : Nat := 0
def PySem.W.Fast.tw14915352812082407235 : Nat := 0
def PySem.W.Fast.tw1889691886869712264 : Nat := 0
def PySem.W.Fast.tw8561011101499012259 : Nat := 0
def PySem.W.Fast.tw12824296487082206869 : Nat := 0
def PySem.W.Fast.tw5782216939787089000 : Nat := 0
def PySem.W.Fast.tw13920053322817768585 : Nat := 0
def PySem.W.Fast.tw17704907845030097754 : Nat := 0
def PySem.W.Fast.tw13793417281258038992 : Nat := 0
def PySem.W.Fast.tw765241015692853451 : Nat := 0
def PySem.W.Fast.tw15725991760448241100 : Nat := 0
def PySem.W.Fast.tw359948967868601495 : Nat := 0
def PySem.W.Fast.tw16783932779438302104 : Nat := 0
def PySem.W.Fast.tw3957493899676739614 : Nat := 0
def PySem.W.Fast.tw14089882470186545173 : Nat := 0
def PySem.W.Fast.tw13074800413425606646 : Nat := 0
def PySem.W.Fast.tw5113106923070619042 : Nat := 0
def PySem.W.Fast.tw7502681360797588857 : Nat := 0
def PySem.W.Fast.tw17782832256573121620 : Nat := 0
def PySem.W.Fast.tw10649517905359617329 : Nat := 0
def PySem.W.Fast.tw14696143287293756915 : Nat := 0
def PySem.W.Fast.tw15232391704498234406 : Nat := 0
def PySem.W.Fast.tw16049857879679971433 : Nat := 0
def PySem.W.Fast.tw3214487520633198739 : Nat := 0
def PySem.W.Fast.tw11102032131977449556 : Nat := 0
def PySem.W.Fast.tw1378124110652616472 : Nat := 0
def PySem.W.Fast.tw7969662670330276759 : Nat := 0
def PySem.W.Fast.tw415929414378070661 : Nat := 0
def PySem.W.Fast.tw11231397992336964822 : Nat := 0
def PySem.W.Fast.tw17409819819448852178 : Nat := 0
def PySem.W.Fast.tw16792812413651341406 : Nat := 0
def PySem.W.Fast.tw14310455179867097878 : Nat := 0
def PySem.W.Fast.tw18424819527736878146 : Nat := 0
def PySem.W.Fast.tw15763534673889238022 : Nat := 0
def PySem.W.Fast.tw16803443464071888321 : Nat := 0
def PySem.W.Fast.tw11871883497915373536 : Nat := 0
def PySem.W.Fast.tw8051759747917972019 : Nat := 0
def PySem.W.Fast.tw83467798610213328 : Nat := 0
def PySem.W.Fast.tw11206825010298586126 : Nat := 0
def PySem.W.Fast.tw1906763483857807203 : Nat := 0
def PySem.W.Fast.tw9353243551082614826 : Nat := 0
def PySem.W.Fast.tw9567162334150797556 : Nat := 0
def PySem.W.Fast.tw9532130705663378056 : Nat := 0
def PySem.W.Fast.tw13821095413189860916 : Nat := 0
def PySem.W.Fast.tw5072508593234305900 : Nat := 0
def PySem.W.Fast.tw3568552633395290528 : Nat := 0
def PySem.W.Fast.tw13886237424977399364 : Nat := 0
def PySem.W.Fast.tw7160362063533382841 : Nat := 0
def PySem.W.Fast.tw12800371007267720014 : Nat := 0
def PySem.W.Fast.tw15770262144472775149 : Nat := 0
def PySem.W.Fast.tw12334241261216792294 : Nat := 0
def PySem.W.Fast.tw14640171950963099383 : Nat := 0
def PySem.W.Fast.tw15179139737926656746 : Nat := 0
def PySem.W.Fast.tw854702834692129242 : Nat := 0
def PySem.W.Fast.tw13511567983814407120 : Nat := 0
def PySem.W.Fast.tw18201386244143318408 : Nat := 0
def PySem.W.Fast.tw853951112067839504 : Nat := 0
def PySem.W.Fast.tw16003224037103459226 : Nat := 0
def PySem.W.Fast.tw1052140442082669739 : Nat := 0
def PySem.W.Fast.tw2428214249178301790 : Nat := 0
def PySem.W.Fast.tw11958010565030539317 : Nat := 0
def PySem.W.Fast.tw12132811900132778455 : Nat := 0
def PySem.W.Fast.tw18166021611215689135 : Nat := 0
def PySem.W.Fast.tw15084624625882168440 : Nat := 0
def PySem.W.Fast.tw11483374939608608582 : Nat := 0
def PySem.W.Fast.tw733851788776202665 : Nat := 0
def PySem.W.Fast.tw348674288605397963 : Nat := 0
def PySem.W.Fast.tw17834727914598566733 : Nat := 0
def PySem.W.Fast.tw3930919340702671836 : Nat := 0
def PySem.W.Fast.tw17211810887399504700 : Nat := 0
def PySem.W.Fast.tw7003934284411900902 : Nat := 0
def PySem.W.Fast.tw7127969856449211788 : Nat := 0
def PySem.W.Fast.tw12771098325472720924 : Nat := 0
def PySem.W.Fast.tw12240528854116598430 : Nat := 0
def PySem.W.Fast.tw6638852058537023426 : Nat := 0
def PySem.W.Fast.tw3467700188046642829 : Nat := 0
def PySem.W.Fast.tw1298459117859158338 : Nat := 0
def PySem.W.Fast.tw9642064285869857561 : Nat := 0
def PySem.W.Fast.tw16454807313554231234 : Nat := 0
def PySem.W.Fast.tw8529707010105111190 : Nat := 0
def PySem.W.Fast.tw7595723539624000831 : Nat := 0
def PySem.W.Fast.tw4019884291613134013 : Nat := 0
def PySem.W.Fast.tw3367518047374418310 : Nat := 0
def PySem.W.Fast.tw6349965253176068160 : Nat := 0
def PySem.W.Fast.tw8751251897135084123 : Nat := 0
def PySem.W.Fast.tw7059836193074739079 : Nat := 0
def PySem.W.Fast.tw1837789193092405785 : Nat := 0
def PySem.W.Fast.tw18282783571966212809 : Nat := 0
def PySem.W.Fast.tw3261698267698240283 : Nat := 0
def PySem.W.Fast.tw14043017027108923855 : Nat := 0
def PySem.W.Fast.tw15870169965017299393 : Nat := 0
def PySem.W.Fast.tw15370739073121505988 : Nat := 0
def PySem.W.Fast.tw10223917433778871601 : Nat := 0
def PySem.W.Fast.tw10023192611818095676 : Nat := 0
def PySem.W.Fast.tw12776495019922106885 : Nat := 0
def PySem.W.Fast.tw4569829232409074473 : Nat := 0
def PySem.W.Fast.tw11483778443740053248 : Nat := 0
def PySem.W.Fast.tw4069061443562606178 : Nat := 0
def PySem.W.Fast.tw1760330202679295381 : Nat := 0
def PySem.W.Fast.tw9989019854838238685 : Nat := 0
def PySem.W.Fast.tw4607275322923992040 : Nat := 0
def PySem.W.Fast.tw12376744085041705966 : Nat := 0
def PySem.W.Fast.tw12207033217291766673 : Nat := 0
def PySem.W.Fast.tw10053428804599869811 : Nat := 0
def PySem.W.Fast.tw7082484403648122285 : Nat := 0
def PySem.W.Fast.tw10444861686844176615 : Nat := 0
def PySem.W.Fast.tw713900304694338028 : Nat := 0
def PySem.W.Fast.tw9981504816797586382 : Nat := 0
def PySem.W.Fast.tw14401056674179936762 : Nat := 0
def PySem.W.Fast.tw3042889064976448453 : Nat := 0
def PySem.W.Fast.tw9385497605685738361 : Nat := 0
def PySem.W.Fast.tw843483282852834580 : Nat := 0
def PySem.W.Fast.tw8441656692035047669 : Nat := 0
def PySem.W.Fast.tw17192581735710516653 : Nat := 0
def PySem.W.Fast.tw6249530189079166979 : Nat := 0
def PySem.W.Fast.tw6271308967152071214 : Nat := 0
def PySem.W.Fast.tw9235739307901733474 : Nat := 0
def PySem.W.Fast.tw17592193336650733518 : Nat := 0
def PySem.W.Fast.tw12974476223127427603 : Nat := 0
def PySem.W.Fast.tw7082130558886668196 : Nat := 0
def PySem.W.Fast.tw11422281872823416682 : Nat := 0
def PySem.W.Fast.tw1442580246435235922 : Nat := 0
def PySem.W.Fast.tw8173817192554846127 : Nat := 0
def PySem.W.Fast.tw12001002592817408716 : Nat := 0
def PySem.W.Fast.tw1513911862551979647 : Nat := 0
def PySem.W.Fast.tw14772358023110671309 : Nat := 0
def PySem.W.Fast.tw10877246400579201821 : Nat := 0
def PySem.W.Fast.tw9594011159155728707 : Nat := 0
def PySem.W.Fast.tw2289027863840292949 : Nat := 0
def PySem.W.Fast.tw10165507035544690974 : Nat := 0
def PySem.W.Fast.tw7154772019800697144 : Nat := 0
def PySem.W.Fast.tw4883623621758074538 : Nat := 0
def PySem.W.Fast.tw2470461401403105735 : Nat := 0
def PySem.W.Fast.tw3835382828725649822 : Nat := 0
def PySem.W.Fast.tw9321266691575886770 : Nat := 0
def PySem.W.Fast.tw8954809038058031640 : Nat := 0
def PySem.W.Fast.tw14071738744942578462 : Nat := 0
def PySem.W.Fast.tw9964261856904242422 : Nat := 0
def PySem.W.Fast.tw6145840900252036582 : Nat := 0
def PySem.W.Fast.tw12331438461157175870 : Nat := 0
def PySem.W.Fast.tw15622887894605520053 : Nat := 0
def PySem.W.Fast.tw13370860452680100930 : Nat := 0
def PySem.W.Fast.tw14268460556564960204 : Nat := 0
def PySem.W.Fast.tw1948439595089362272 : Nat := 0
def PySem.W.Fast.tw9652511948490225175 : Nat := 0
def PySem.W.Fast.tw8340122171194372720 : Nat := 0
def PySem.W.Fast.tw8032448637850789680 : Nat := 0
def PySem.W.Fast.tw9253583299280652058 : Nat := 0
def PySem.W.Fast.tw15037116892839475445 : Nat := 0
def PySem.W.Fast.tw7973080620676526018 : Nat := 0
def PySem.W.Fast.tw5721950267006262238 : Nat := 0
def PySem.W.Fast.tw4482079236749084860 : Nat := 0
def PySem.W.Fast.tw4641440726688167195 : Nat := 0
def PySem.W.Fast.tw15438007626650939689 : Nat := 0
def PySem.W.Fast.tw17259662944269382584 : Nat := 0
def PySem.W.Fast.tw12857802254540285388 : Nat := 0
def PySem.W.Fast.tw3907794325461115959 : Nat := 0
def PySem.W.Fast.tw6834680754083689107 : Nat := 0
def PySem.W.Fast.tw13371304916988435048 : Nat := 0
def PySem.W.Fast.tw10051541841192571565 : Nat := 0
def PySem.W.Fast.tw3124638828838275649 : Nat := 0
def PySem.W.Fast.tw15173663686022697060 : Nat := 0
def PySem.W.Fast.tw14624484870229323364 : Nat := 0
def PySem.W.Fast.tw12402211053674663749 : Nat := 0
def PySem.W.Fast.tw9508822827093953388 : Nat := 0
def PySem.W.Fast.tw8363369604298976545 : Nat := 0
def PySem.W.Fast.tw10155339816484889006 : Nat := 0
def PySem.W.Fast.tw15966062924287686911 : Nat := 0
def PySem.W.Fast.tw11174031708013094758 : Nat := 0
def PySem.W.Fast.tw2086893921437418451 : Nat := 0
def PySem.W.Fast.tw18295647026142604066 : Nat := 0
def PySem.W.Fast.tw17034256864842787219 : Nat := 0
def PySem.W.Fast.tw16969267129386590986 : Nat := 0
def PySem.W.Fast.tw9928398687347205556 : Nat := 0
def PySem.W.Fast.tw18221614008439518633 : Nat := 0
def PySem.W.Fast.tw10294679768787016796 : Nat := 0
def PySem.W.Fast.tw2963532145933465266 : Nat := 0
def PySem.W.Fast.tw15638248511497110636 : Nat := 0
def PySem.W.Fast.tw14339740122846820099 : Nat := 0
def PySem.W.Fast.tw4631930287120070787 : Nat := 0
def PySem.W.Fast.tw14462787807004616042 : Nat := 0
def PySem.W.Fast.tw9552302976290773418 : Nat := 0
def PySem.W.Fast.tw7628156352726500217 : Nat := 0
def PySem.W.Fast.tw11299961092057157213 : Nat := 0
def PySem.W.Fast.tw8825270753200106567 : Nat := 0
def PySem.W.Fast.tw125791109629932403 : Nat := 0
def PySem.W.Fast.tw18063787540563587610 : Nat := 0
def PySem.W.Fast.tw11807533212673403971 : Nat := 0
def PySem.W.Fast.tw3355449581626298119 : Nat := 0
def PySem.W.Fast.tw11010646499187151018 : Nat := 0
def PySem.W.Fast.tw14009357968543010124 : Nat := 0
def PySem.W.Fast.tw12076916858261223530 : Nat := 0
def PySem.W.Fast.tw14674556611077780649 : Nat := 0
def PySem.W.Fast.tw17715283619818721511 : Nat := 0
def PySem.W.Fast.tw10694911857203344664 : Nat := 0
def PySem.W.Fast.tw9537694791084579133 : Nat := 0
def PySem.W.Fast.tw12344671533415776560 : Nat := 0
def PySem.W.Fast.tw2378319103138443187 : Nat := 0
def PySem.W.Fast.tw8108376852867367957 : Nat := 0
def PySem.W.Fast.tw15490104509774653631 : Nat := 0
def PySem.W.Fast.tw6700306837636695005 : Nat := 0
def PySem.W.Fast.tw4059341050254210166 : Nat := 0
def PySem.W.Fast.tw18371920308504545702 : Nat := 0
def PySem.W.Fast.tw15855158539173672490 : Nat := 0
def PySem.W.Fast.tw6821099936686859718 : Nat := 0
def PySem.W.Fast.tw14117657068989813374 : Nat := 0
def PySem.W.Fast.tw7743185873221118501 : Nat := 0
def PySem.W.Fast.tw6122504052354926557 : Nat := 0
def PySem.W.Fast.tw9142911773455605668 : Nat := 0
def PySem.W.Fast.tw3815306181350681155 : Nat := 0
def PySem.W.Fast.tw18137987121028795922 : Nat := 0
def PySem.W.Fast.tw3677844186341287797 : Nat := 0
def PySem.W.Fast.tw17043283170820329238 : Nat := 0
def PySem.W.Fast.tw452302324868318824 : Nat := 0
def PySem.W.Fast.tw13595359672115117628 : Nat := 0
def PySem.W.Fast.tw9283636870666291279 : Nat := 0
def PySem.W.Fast.tw5639917582012457180 : Nat := 0
def PySem.W.Fast.tw6451838058547051047 : Nat := 0
def PySem.W.Fast.tw4494275303308016212 : Nat := 0
def PySem.W.Fast.tw16719056246784619115 : Nat := 0
def PySem.W.Fast.tw7080895761260084208 : Nat := 0
def PySem.W.Fast.tw16898229642454034124 : Nat := 0
def PySem.W.Fast.tw9689579932861039929 : Nat := 0
def PySem.W.Fast.tw12130219096272036155 : Nat := 0
def PySem.W.Fast.tw4144230143357255430 : Nat := 0
def PySem.W.Fast.tw9421081600848696276 : Nat := 0
def PySem.W.Fast.tw15720459998816652782 : Nat := 0
def PySem.W.Fast.tw3645299857203523233 : Nat := 0
def PySem.W.Fast.tw12803605266632857815 : Nat := 0
def PySem.W.Fast.tw6452397598189786337 : Nat := 0
def PySem.W.Fast.tw12975925828751160268 : Nat := 0
def PySem.W.Fast.tw9959349528801700630 : Nat := 0
def PySem.W.Fast.tw7545159676816783063 : Nat := 0
def PySem.W.Fast.tw6796811906962898081 : Nat := 0
def PySem.W.Fast.tw5698109501411724741 : Nat := 0
def PySem.W.Fast.tw4960926886521926173 : Nat := 0
def PySem.W.Fast.tw14081799488865633004 : Nat := 0
def PySem.W.Fast.tw16645147462935884499 : Nat := 0
def PySem.W.Fast.tw1932632396169356485 : Nat := 0
def PySem.W.Fast.tw10771726043242891411 : Nat := 0
def PySem.W.Fast.tw10246004494434624939 : Nat := 0
def PySem.W.Fast.tw1491478897728502260 : Nat := 0
def PySem.W.Fast.tw13954621502594481823 : Nat := 0
def PySem.W.Fast.tw18042204332275841508 : Nat := 0
def PySem.W.Fast.tw11555527243199019296 : Nat := 0
def PySem.W.Fast.tw8308976212677541004 : Nat := 0
def PySem.W.Fast.tw9874828522010402816 : Nat := 0
def PySem.W.Fast.tw700034066385678220 : Nat := 0
def PySem.W.Fast.tw5944074722217362758 : Nat := 0
def PySem.W.Fast.tw428608498122528099 : Nat := 0
def PySem.W.Fast.tw5948713563738534938 : Nat := 0
def PySem.W.Fast.tw6558850847143701825 : Nat := 0
def PySem.W.Fast.tw11318633730182049919 : Nat := 0
def PySem.W.Fast.tw3931079237693469547 : Nat := 0
def PySem.W.Fast.tw8385337592453344671 : Nat := 0
def PySem.W.Fast.tw8829249176383039529 : Nat := 0
def PySem.W.Fast.tw14682642576826608097 : Nat := 0
def PySem.W.Fast.tw10385619761075294540 : Nat := 0
def PySem.W.Fast.tw5008386224835750735 : Nat := 0
def PySem.W.Fast.tw4747818294010121620 : Nat := 0
def PySem.W.Fast.tw12795712972013611391 : Nat := 0
def PySem.W.Fast.tw10257506561005239235 : Nat := 0
def PySem.W.Fast.tw6481994276889411104 : Nat := 0
def PySem.W.Fast.tw3402752712927116515 : Nat := 0
def PySem.W.Fast.tw16743501661610998518 : Nat := 0
def PySem.W.Fast.tw15395470332019128201 : Nat := 0
def PySem.W.Fast.tw10005742343918196807 : Nat := 0
def PySem.W.Fast.tw5573207061552649204 : Nat := 0
def PySem.W.Fast.tw6472150182141846185 : Nat := 0
def PySem.W.Fast.tw17584101062450556182 : Nat := 0
def PySem.W.Fast.tw8663351296855647525 : Nat := 0
def PySem.W.Fast.tw3022858431866782762 : Nat := 0
def PySem.W.Fast.tw3839528280738635418 : Nat := 0
def PySem.W.Fast.tw11999353223760846304 : Nat := 0
def PySem.W.Fast.tw12859105331309836363 : Nat := 0
def PySem.W.Fast.tw16757386633419825894 : Nat := 0
def PySem.W.Fast.tw14242495285210149257 : Nat := 0
def PySem.W.Fast.tw7064994421640024575 : Nat := 0
def PySem.W.Fast.tw15169950497772941235 : Nat := 0
def PySem.W.Fast.tw11326958066294890491 : Nat := 0
def PySem.W.Fast.tw7420530841469383840 : Nat := 0
def PySem.W.Fast.tw5039244286930131417 : Nat := 0
def PySem.W.Fast.tw6316989375008562143 : Nat := 0
def PySem.W.Fast.tw8012727631176217266 : Nat := 0
def PySem.W.Fast.tw7257513042932038146 : Nat := 0
def PySem.W.Fast.tw12109619724748857167 : Nat := 0
def PySem.W.Fast.tw38838560166639435 : Nat := 0
def PySem.W.Fast.tw15482094278319623438 : Nat := 0
def PySem.W.Fast.tw8137651123229108629 : Nat := 0
def PySem.W.Fast.tw1587988003310406904 : Nat := 0
def PySem.W.Fast.tw7977458100639694989 : Nat := 0
def PySem.W.Fast.tw1051637448287474356 : Nat := 0
def PySem.W.Fast.tw14502932043761496810 : Nat := 0
def PySem.W.Fast.tw11462908694804561485 : Nat := 0
def PySem.W.Fast.tw12319225729497600559 : Nat := 0
def PySem.W.Fast.tw7326378401862249532 : Nat := 0
def PySem.W.Fast.tw8052318039824304352 : Nat := 0
def PySem.W.Fast.tw9427272278563914748 : Nat := 0
def PySem.W.Fast.tw15542675432179602876 : Nat := 0
def PySem.W.Fast.tw368100558324764359 : Nat := 0
def PySem.W.Fast.tw6294001447173808783 : Nat := 0
def PySem.W.Fast.tw11236011319913700372 : Nat := 0
def PySem.W.Fast.tw17616141130397438716 : Nat := 0
def PySem.W.Fast.tw9492195966608152813 : Nat := 0
def PySem.W.Fast.tw13155310478727121161 : Nat := 0
def PySem.W.Fast.tw7185794819394227838 : Nat := 0
def PySem.W.Fast.tw18036712875970977320 : Nat := 0
def PySem.W.Fast.tw14028723986680008981 : Nat := 0
def PySem.W.Fast.tw7158518903910666046 : Nat := 0
def PySem.W.Fast.tw18046107353178171278 : Nat := 0
def PySem.W.Fast.tw4160758563325167743 : Nat := 0
def PySem.W.Fast.tw12713192946722812781 : Nat := 0
def PySem.W.Fast.tw925614735623383318 : Nat := 0
def PySem.W.Fast.tw4132235127165464466 : Nat := 0
def PySem.W.Fast.tw14024648293101032753 : Nat := 0
def PySem.W.Fast.tw9078322502316447205 : Nat := 0
def PySem.W.Fast.tw6626365288016681380 : Nat := 0
def PySem.W.Fast.tw7890818476238790743 : Nat := 0
def PySem.W.Fast.tw4063829554792028902 : Nat := 0
def PySem.W.Fast.tw11833770627774293434 : Nat := 0
def PySem.W.Fast.tw4348727942501228697 : Nat := 0
def PySem.W.Fast.tw1774781388811855649 : Nat := 0
def PySem.W.Fast.tw5354017864483067177 : Nat := 0
def PySem.W.Fast.tw4616600699618764014 : Nat := 0
def PySem.W.Fast.tw11380649288434964582 : Nat := 0
def PySem.W.Fast.tw16543163330920864143 : Nat := 0
def PySem.W.Fast.tw15880536216059779472 : Nat := 0
def PySem.W.Fast.tw4268915954512972608 : Nat := 0
def PySem.W.Fast.tw18429375404007406382 : Nat := 0
def PySem.W.Fast.tw13007077703990563824 : Nat := 0
def PySem.W.Fast.tw18252862575391167069 : Nat := 0
def PySem.W.Fast.tw1215733077542623991 : Nat := 0
def PySem.W.Fast.tw1925937272425898085 : Nat := 0
def PySem.W.Fast.tw12190300008058466940 : Nat := 0
def PySem.W.Fast.tw5953697556084814090 : Nat := 0
def PySem.W.Fast.tw1857450389932971082 : Nat := 0
def PySem.W.Fast.tw1324155404423884280 : Nat := 0
def PySem.W.Fast.tw1608432033268295120 : Nat := 0
def PySem.W.Fast.tw15981522519626589010 : Nat := 0
def PySem.W.Fast.tw3154570549745039668 : Nat := 0
def PySem.W.Fast.tw2825671875779930684 : Nat := 0
def PySem.W.Fast.tw14772455866960152828 : Nat := 0
def PySem.W.Fast.tw11662193425605189368 : Nat := 0
def PySem.W.Fast.tw10391614104965993796 : Nat := 0
def PySem.W.Fast.tw2641863065392718714 : Nat := 0
def PySem.W.Fast.tw2496192107384509590 : Nat := 0
def PySem.W.Fast.tw9671656411918714619 : Nat := 0
def PySem.W.Fast.tw10774601663323550583 : Nat := 0
def PySem.W.Fast.tw11506342234273871998 : Nat := 0
def PySem.W.Fast.tw10148769975565484008 : Nat := 0
def PySem.W.Fast.tw11112187244891874621 : Nat := 0
def PySem.W.Fast.tw5395942854262652368 : Nat := 0
def PySem.W.Fast.tw5986718940248608420 : Nat := 0
def PySem.W.Fast.tw6452019398927204573 : Nat := 0
def PySem.W.Fast.tw17782048422761989306 : Nat := 0
def PySem.W.Fast.tw13458947742614288083 : Nat := 0
def PySem.W.Fast.tw11157625918987215484 : Nat := 0
def PySem.W.Fast.tw13725534710752807612 : Nat := 0
def PySem.W.Fast.tw11796630565977813435 : Nat := 0
def PySem.W.Fast.tw12559483131474305444 : Nat := 0
def PySem.W.Fast.tw1245114812998256407 : Nat := 0
def PySem.W.Fast.tw17021581063911914873 : Nat := 0
def PySem.W.Fast.tw656028272886261703 : Nat := 0
def PySem.W.Fast.tw5841983810576865489 : Nat := 0
def PySem.W.Fast.tw5529342628933637136 : Nat := 0
def PySem.W.Fast.tw17357520887841959795 : Nat := 0
def PySem.W.Fast.tw3998081159752130252 : Nat := 0
def PySem.W.Fast.tw5416902953867024148 : Nat := 0
def PySem.W.Fast.tw13595119040275197293 : Nat := 0
def PySem.W.Fast.tw13120221555209164698 : Nat := 0
def PySem.W.Fast.tw14611873517056787115 : Nat := 0
def PySem.W.Fast.tw1733385743314974199 : Nat := 0
def PySem.W.Fast.tw3071823691538319278 : Nat := 0
def PySem.W.Fast.tw8505314192188768252 : Nat := 0
def PySem.W.Fast.tw4671750253775517977 : Nat := 0
def PySem.W.Fast.tw12353941205535006128 : Nat := 0
def PySem.W.Fast.tw7256906014055633517 : Nat := 0
def PySem.W.Fast.tw14824171750099712581 : Nat := 0
def PySem.W.Fast.tw1294544796209740828 : Nat := 0
def PySem.W.Fast.tw3805489331175988341 : Nat := 0
def PySem.W.Fast.tw15603081782400565184 : Nat := 0
def PySem.W.Fast.tw15582878937210209681 : Nat := 0
def PySem.W.Fast.tw11126021785741933996 : Nat := 0
def PySem.W.Fast.tw6195402803974098031 : Nat := 0
def PySem.W.Fast.tw11422063618729063822 : Nat := 0
def PySem.W.Fast.tw8811146995342696153 : Nat := 0
def PySem.W.Fast.tw10508016898611579563 : Nat := 0
def PySem.W.Fast.tw17744418849653632636 : Nat := 0
def PySem.W.Fast.tw14063230003434428079 : Nat := 0
def PySem.W.Fast.tw17031586828655771307 : Nat := 0
def PySem.W.Fast.tw2403328440704102426 : Nat := 0
def PySem.W.Fast.tw17082883334568992004 : Nat := 0
def PySem.W.Fast.tw12865471423574688473 : Nat := 0
def PySem.W.Fast.tw8432022886445917821 : Nat := 0
def PySem.W.Fast.tw2673738286379751315 : Nat := 0
def PySem.W.Fast.tw12640011531914527265 : Nat := 0
def PySem.W.Fast.tw14824205241076406299 : Nat := 0
def PySem.W.Fast.tw7803635232758542232 : Nat := 0
def PySem.W.Fast.tw4867283515062931187 : Nat := 0
def PySem.W.Fast.tw12331466643979450089 : Nat := 0
def PySem.W.Fast.tw8453976319550266501 : Nat := 0
def PySem.W.Fast.tw10672245790822085236 : Nat := 0
def PySem.W.Fast.tw15980718166275357362 : Nat := 0
def PySem.W.Fast.tw17840646209696061078 : Nat := 0
def PySem.W.Fast.tw13533819382752681886 : Nat := 0
def PySem.W.Fast.tw3682799975843124438 : Nat := 0
def PySem.W.Fast.tw14192293402393849063 : Nat := 0
def PySem.W.Fast.tw7390760879949594909 : Nat := 0
def PySem.W.Fast.tw2568445199116154063 : Nat := 0
def PySem.W.Fast.tw15774609225273513872 : Nat := 0
def PySem.W.Fast.tw12509537470122459756 : Nat := 0
def PySem.W.Fast.tw2288037845747132983 : Nat := 0
def PySem.W.Fast.tw17497164858294961149 : Nat := 0
def PySem.W.Fast.tw14836582946934854399 : Nat := 0
def PySem.W.Fast.tw3262728101567287673 : Nat := 0
def PySem.W.Fast.tw3823794528299474931 : Nat := 0
def PySem.W.Fast.tw3648540982423548973 : Nat := 0
def PySem.W.Fast.tw4240679339435222297 : Nat := 0
def PySem.W.Fast.tw4808261693429394590 : Nat := 0
def PySem.W.Fast.tw8277085050037311079 : Nat := 0
def PySem.W.Fast.tw6063362007964535250 : Nat := 0
def PySem.W.Fast.tw15112754590347155756 : Nat := 0
def PySem.W.Fast.tw7057309834748971651 : Nat := 0
def PySem.W.Fast.tw3700237603674201461 : Nat := 0
def PySem.W.Fast.tw16219213168678604936 : Nat := 0
def PySem.W.Fast.tw14700372679577438538 : Nat := 0
def PySem.W.Fast.tw13729855124300650289 : Nat := 0
def PySem.W.Fast.tw6494414382211724423 : Nat := 0
def PySem.W.Fast.tw17297587407177215214 : Nat := 0
def PySem.W.Fast.tw2590026246670964666 : Nat := 0
def PySem.W.Fast.tw17673394544382992425 : Nat := 0
def PySem.W.Fast.tw18304512210577626464 : Nat := 0
def PySem.W.Fast.tw1821296718766705916 : Nat := 0
def PySem.W.Fast.tw5832407180672671162 : Nat := 0
def PySem.W.Fast.tw8784754948748272108 : Nat := 0
def PySem.W.Fast.tw10154639358926251811 : Nat := 0
def PySem.W.Fast.tw6124967256635728732 : Nat := 0
def PySem.W.Fast.tw845205648043575571 : Nat := 0
def PySem.W.Fast.tw7094193118322232731 : Nat := 0
def PySem.W.Fast.tw9123870786802344708 : Nat := 0
def PySem.W.Fast.tw15902860932671217858 : Nat := 0
def PySem.W.Fast.tw1527370546323446763 : Nat := 0
def PySem.W.Fast.tw6502129845525960377 : Nat := 0
def PySem.W.Fast.tw12375412001891665101 : Nat := 0
def PySem.W.Fast.tw11150680072500037515 : Nat := 0
def PySem.W.Fast.tw13043556239251537652 : Nat := 0
def PySem.W.Fast.tw15828391144373419586 : Nat := 0
def PySem.W.Fast.tw353314913468180805 : Nat := 0
def PySem.W.Fast.tw3555143222439354045 : Nat := 0
def PySem.W.Fast.tw16329683998700749865 : Nat := 0
def PySem.W.Fast.tw7136271871734678896 : Nat := 0
def PySem.W.Fast.tw9944942193426678947 : Nat := 0
def PySem.W.Fast.tw5836579213054526203 : Nat := 0
def PySem.W.Fast.tw16487571849163458281 : Nat := 0
def PySem.W.Fast.tw12872450321496095153 : Nat := 0
def PySem.W.Fast.tw16451421054567903190 : Nat := 0
def PySem.W.Fast.tw13793178758801758489 : Nat := 0
def PySem.W.Fast.tw16550253725120569508 : Nat := 0
def PySem.W.Fast.tw12432876508772668513 : Nat := 0
def PySem.W.Fast.tw12810151475953459373 : Nat := 0
def PySem.W.Fast.tw12830199348742986923 : Nat := 0
def PySem.W.Fast.tw16901404528862095112 : Nat := 0
def PySem.W.Fast.tw17658432779350506578 : Nat := 0
def PySem.W.Fast.tw6676993513782244215 : Nat := 0
def PySem.W.Fast.tw1992687836920352808 : Nat := 0
def PySem.W.Fast.tw14228186428031197582 : Nat := 0
def PySem.W.Fast.tw11517670225910826110 : Nat := 0
def PySem.W.Fast.tw4862159323648115646 : Nat := 0
def PySem.W.Fast.tw1547432386452562756 : Nat := 0
def PySem.W.Fast.tw14692479209072447220 : Nat := 0
def PySem.W.Fast.tw5162117886297602841 : Nat := 0
def PySem.W.Fast.tw11033472572875348600 : Nat := 0
def PySem.W.Fast.tw2778688867923412020 : Nat := 0
def PySem.W.Fast.tw16610864293322646748 : Nat := 0
def PySem.W.Fast.tw16172754107901845145 : Nat := 0
def PySem.W.Fast.tw17180635614430015699 : Nat := 0
def PySem.W.Fast.tw17617834266580475997 : Nat := 0
def PySem.W.Fast.tw14187134455628498253 : Nat := 0
def PySem.W.Fast.tw309791960888948247 : Nat := 0
def PySem.W.Fast.tw14423556230694778620 : Nat := 0
def PySem.W.Fast.tw7134237229633765280 : Nat := 0
def PySem.W.Fast.tw1113535643513175570 : Nat := 0
def PySem.W.Fast.tw1686379531472594995 : Nat := 0
def PySem.W.Fast.tw14425300212728675036 : Nat := 0
def PySem.W.Fast.tw2393554734366388452 : Nat := 0
def PySem.W.Fast.tw13044878164679623645 : Nat := 0
def PySem.W.Fast.tw5917086418808895031 : Nat := 0
def PySem.W.Fast.tw4563504036655203572 : Nat := 0
def PySem.W.Fast.tw16636824305980423216 : Nat := 0
def PySem.W.Fast.tw14850940623593103544 : Nat := 0
def PySem.W.Fast.tw7955129168985118937 : Nat := 0
def PySem.W.Fast.tw2225951716099359062 : Nat := 0
def PySem.W.Fast.tw7810866228141081658 : Nat := 0
def PySem.W.Fast.tw3854181954716944486 : Nat := 0
def PySem.W.Fast.tw4185385631744575003 : Nat := 0
def PySem.W.Fast.tw4150243748284990335 : Nat := 0
def PySem.W.Fast.tw15587803898146526591 : Nat := 0
def PySem.W.Fast.tw16696192098066890381 : Nat := 0
def PySem.W.Fast.tw15907079958277042802 : Nat := 0
def PySem.W.Fast.tw17671028624323024820 : Nat := 0
def PySem.W.Fast.tw4257881483406222393 : Nat := 0
def PySem.W.Fast.tw13812198803535885858 : Nat := 0
def PySem.W.Fast.tw10314777415584528984 : Nat := 0
def PySem.W.Fast.tw13677124007802121863 : Nat := 0
def PySem.W.Fast.tw407822581930864891 : Nat := 0
def PySem.W.Fast.tw16434747973300533839 : Nat := 0
def PySem.W.Fast.tw1053777410525293648 : Nat := 0
def PySem.W.Fast.tw3268923101436941575 : Nat := 0
def PySem.W.Fast.tw117466039049295824 : Nat := 0
def PySem.W.Fast.tw9846787577893331457 : Nat := 0
def PySem.W.Fast.tw4217043637571264231 : Nat := 0
def PySem.W.Fast.tw15078588340922762846 : Nat := 0
def PySem.W.Fast.tw793023774183930915 : Nat := 0
def PySem.W.Fast.tw1767487516512551003 : Nat := 0
def PySem.W.Fast.tw10518766062037685238 : Nat := 0
def PySem.W.Fast.tw4325680867028898337 : Nat := 0
def PySem.W.Fast.tw6908556505553245724 : Nat := 0
def PySem.W.Fast.tw10422715617423956498 : Nat := 0
def PySem.W.Fast.tw8475215474225684858 : Nat := 0
def PySem.W.Fast.tw17530699638739394032 : Nat := 0
def PySem.W.Fast.tw4986851701297285635 : Nat := 0
def PySem.W.Fast.tw18374762010258520265 : Nat := 0
def PySem.W.Fast.tw18018011398360429439 : Nat := 0
def PySem.W.Fast.tw5353189999527471926 : Nat := 0
def PySem.W.Fast.tw17734385599297467559 : Nat := 0
def PySem.W.Fast.tw4835244756312262361 : Nat := 0
def PySem.W.Fast.tw5475356282679228391 : Nat := 0
def PySem.W.Fast.tw7601603453618061999 : Nat := 0
def PySem.W.Fast.tw5221170473177712658 : Nat := 0
def PySem.W.Fast.tw2492310225300658188 : Nat := 0
def PySem.W.Fast.tw804726139871070703 : Nat := 0
def PySem.W.Fast.tw10107176292716445529 : Nat := 0
def PySem.W.Fast.tw1640594713266585361 : Nat := 0
def PySem.W.Fast.tw7669799370958438773 : Nat := 0
def PySem.W.Fast.tw15888998466628177824 : Nat := 0
def PySem.W.Fast.tw3704746159227357016 : Nat := 0
def PySem.W.Fast.tw14725594871112973561 : Nat := 0
def PySem.W.Fast.tw3232630973676223939 : Nat := 0
def PySem.W.Fast.tw16020753949005490133 : Nat := 0
def PySem.W.Fast.tw798378171136876175 : Nat := 0
def PySem.W.Fast.tw18073257560220688015 : Nat := 0
def PySem.W.Fast.tw6255485438461816666 : Nat := 0
def PySem.W.Fast.tw17954040767720255630 : Nat := 0
def PySem.W.Fast.tw17752596601850831210 : Nat := 0
def PySem.W.Fast.tw8915962714663139510 : Nat := 0
def PySem.W.Fast.tw9721841946892371349 : Nat := 0
def PySem.W.Fast.tw883963401869068196 : Nat := 0
def PySem.W.Fast.tw7102169107175385215 : Nat := 0
def PySem.W.Fast.tw2685072525412470720 : Nat := 0
def PySem.W.Fast.tw17808798430841114082 : Nat := 0
def PySem.W.Fast.tw7052193972861164939 : Nat := 0
def PySem.W.Fast.tw3083272106165548657 : Nat := 0
def PySem.W.Fast.tw8722707726251418551 : Nat := 0
def PySem.W.Fast.tw13248026043781540339 : Nat := 0
def PySem.W.Fast.tw15049058507229602238 : Nat := 0
def PySem.W.Fast.tw12646952566473774443 : Nat := 0
def PySem.W.Fast.tw10231831536931380770 : Nat := 0
def PySem.W.Fast.tw3008335257190978236 : Nat := 0
def PySem.W.Fast.tw13538464321018269725 : Nat := 0
def PySem.W.Fast.tw4918108875672261863 : Nat := 0
def PySem.W.Fast.tw2694992479522274092 : Nat := 0
def PySem.W.Fast.tw13569413875849824485 : Nat := 0
def PySem.W.Fast.tw8103257241108230341 : Nat := 0
def PySem.W.Fast.tw5232843204902200603 : Nat := 0
def PySem.W.Fast.tw12089308519154150263 : Nat := 0
def PySem.W.Fast.tw4439863002131496570 : Nat := 0
def PySem.W.Fast.tw1414166823332692226 : Nat := 0
def PySem.W.Fast.tw6684303495763332469 : Nat := 0
def PySem.W.Fast.tw10439765371889257379 : Nat := 0
def PySem.W.Fast.tw12647603902809912714 : Nat := 0
def PySem.W.Fast.tw18445380729466720473 : Nat := 0
def PySem.W.Fast.tw2691979598355264398 : Nat := 0
def PySem.W.Fast.tw2020282239527918246 : Nat := 0
def PySem.W.Fast.tw5452249641169209634 : Nat := 0
def PySem.W.Fast.tw1810676803431977210 : Nat := 0
def PySem.W.Fast.tw7109548412896624545 : Nat := 0
def PySem.W.Fast.tw2061921513335088581 : Nat := 0
def PySem.W.Fast.tw4850840967648143346 : Nat := 0
def PySem.W.Fast.tw473296131185220120 : Nat := 0
def PySem.W.Fast.tw7510875445182714971 : Nat := 0
def PySem.W.Fast.tw12051669789970121250 : Nat := 0
def PySem.W.Fast.tw12293927522761914531 : Nat := 0
def PySem.W.Fast.tw17506912760274467519 : Nat := 0
def PySem.W.Fast.tw15897536782738441528 : Nat := 0
def PySem.W.Fast.tw6472847171616152908 : Nat := 0
def PySem.W.Fast.tw14380068129981450869 : Nat := 0
def PySem.W.Fast.tw7007194887661743538 : Nat := 0
def PySem.W.Fast.tw9892765490514876481 : Nat := 0
def PySem.W.Fast.tw5103485927488345335 : Nat := 0
def PySem.W.Fast.tw3343606183188457677 : Nat := 0
def PySem.W.Fast.tw16566536138236752845 : Nat := 0
def PySem.W.Fast.tw16393130134026216795 : Nat := 0
def PySem.W.Fast.tw16357569713368564067 : Nat := 0
set_option maxRecDepth 100000 in
set_option maxHeartbeats 0 in
open_top PySem.Challenge.hd04 for PySem.Challenge.rw_seatchains_k04_texts_that_are_none
end
set_option linter.all false
set_option maxRecDepth 100000
namespace Z
open PySem PySem.Spec L2
open PyProof.Rows hiding St
inductive PV where
 | non | bl (b : Bool) | int (i : Int) | str (x : Str)
 | tup (xs : List PV) | lst (xs : List PV) | scr (ns : List Int)
 | ins (C : Addr) (fs : List (Str × PV)) | dic (kvs : List (Key × PV)) | raw (v : V) | pln (xs : List PV) | exn (a : Addr) (d : Option Addr) (fs : List (Str × PV))
abbrev PV.dic0 : PV := .dic []
section
variable (K : PySem.W.Frag)
def TupAt (O : Addr → Prop) (H : Hp) (a : Addr) (vs : List V) : Prop :=
 (¬ O a ∧ Rd H a (.tup vs)) ∨
  ∃ (o : Obj) (its : Array Value) (n : Nat), K.lookup a = some o ∧ o.cls = .type "tuple" ∧ o.data = .seq its n ∧ its.size ≤ sizeLine ∧ Vals vs its.toList
theorem TupAt.sq {K : PySem.W.Frag} {O H a vs} (h : TupAt K O H a vs) : SqT K H a vs := by
 rcases h with ⟨_, h⟩ | h
 ·exact .inl h
 ·exact .inr h
mutual
def Rep (O : Addr → Prop) (H : Hp) : PV → V → Prop
 | .non, v => v = .non
 | .bl b, v => v = .bl b
 | .int i, v => v = .int i
 | .str x, v => v = .str x
 | .raw u, v => v = u
 | .scr ns, v => ∃ a o, v = .ref a ∧ ¬ O a ∧ H a = some (.frz o (.lst (ns.map V.int)))
 | .tup xs, v => ∃ a vs, v = .ref a ∧ TupAt K O H a vs ∧ Reps O H xs vs
 | .lst xs, v => ∃ a vs, v = .ref a ∧ ¬ O a ∧ H a = some (.lst vs) ∧ Reps O H xs vs
 | .ins C fs, v => ∃ a dx ws, v = .ref a ∧ ¬ O a ∧ H a = some (.ins C dx ws) ∧ RepF O H fs ws
 | .dic kvs, v => ∃ a ws, v = .ref a ∧ ¬ O a ∧ H a = some (.dK ws) ∧ RepD O H kvs ws
 | .pln xs, v => ∃ a vs o, v = .ref a ∧ ¬ O a ∧ H a = some (.frz o (.tup vs)) ∧ o.dict = none ∧ Reps O H xs vs
 | .exn a d fs, v => v = .ref a ∧ ∃ ws, (∀ x, d = some x → ¬ O x ∧ H x = some (.xd ws)) ∧ RepF O H fs ws
def Reps (O : Addr → Prop) (H : Hp) : List PV → List V → Prop
 | [], vs => vs = []
 | x :: xs, vs => ∃ v us, vs = v :: us ∧ Rep O H x v ∧ Reps O H xs us
def RepF (O : Addr → Prop) (H : Hp) : List (Str × PV) → List (Str × V) → Prop
 | [], vs => vs = []
 | (n, x) :: xs, vs => ∃ v us, vs = (n, v) :: us ∧ Rep O H x v ∧ RepF O H xs us
def RepD (O : Addr → Prop) (H : Hp) : List (Key × PV) → List (Key × V) → Prop
 | [], vs => vs = []
 | (n, x) :: xs, vs => ∃ v us, vs = (n, v) :: us ∧ Rep O H x v ∧ RepD O H xs us
end
end
def Car (O O' : Addr → Prop) (H H' : Hp) : Prop := ∀ a o, ¬ O a → H a = some o → (∀ ps, o ≠ .tbl ps) → H' a = some o ∧ ¬ O' a
section
variable {K : PySem.W.Frag} {O O' : Addr → Prop} {H H' : Hp}
theorem TupAt.car {a : Addr} {vs : List V} (c : Car O O' H H') (h : TupAt K O H a vs) : TupAt K O' H' a vs := by
 rcases h with ⟨n, h | ⟨o, h⟩⟩ | h
 ·exact .inl ⟨(c _ _ n h nofun).2, .inl (c _ _ n h nofun).1⟩
 ·exact .inl ⟨(c _ _ n h nofun).2, .inr ⟨o, (c _ _ n h nofun).1⟩⟩
 ·exact .inr h
mutual
theorem Rep.car (c : Car O O' H H') : ∀ (x : PV) (v : V), Rep K O H x v → Rep K O' H' x v
 | .non, _, h => by unfold Rep at h ⊢; exact h
 | .bl _, _, h => by unfold Rep at h ⊢; exact h
 | .int _, _, h => by unfold Rep at h ⊢; exact h
 | .str _, _, h => by unfold Rep at h ⊢; exact h
 | .raw _, _, h => by unfold Rep at h ⊢; exact h
 | .scr _, _, h => by
  unfold Rep at h ⊢
  obtain ⟨a, o, e, n, h⟩ := h
  exact ⟨a, o, e, (c _ _ n h nofun).2, (c _ _ n h nofun).1⟩
 | .dic kvs, _, h => by
  unfold Rep at h ⊢
  obtain ⟨a, ws, e, n, h, r⟩ := h
  exact ⟨a, ws, e, (c _ _ n h nofun).2, (c _ _ n h nofun).1, RepD.car c kvs ws r⟩
 | .pln xs, _, h => by
  unfold Rep at h ⊢
  obtain ⟨a, vs, o, e, n, h, d, r⟩ := h
  exact ⟨a, vs, o, e, (c _ _ n h nofun).2, (c _ _ n h nofun).1, d, Reps.car c xs vs r⟩
 | .exn _ d fs, _, h => by
  unfold Rep at h ⊢
  obtain ⟨e, ws, n, r⟩ := h
  exact ⟨e, ws, fun x hx => ⟨(c _ _ (n x hx).1 (n x hx).2 nofun).2, (c _ _ (n x hx).1 (n x hx).2 nofun).1⟩, RepF.car c fs ws r⟩
 | .tup xs, _, h => by
  unfold Rep at h ⊢
  obtain ⟨a, vs, e, t, r⟩ := h
  exact ⟨a, vs, e, t.car c, Reps.car c xs vs r⟩
 | .lst xs, _, h => by
  unfold Rep at h ⊢
  obtain ⟨a, vs, e, n, t, r⟩ := h
  exact ⟨a, vs, e, (c _ _ n t nofun).2, (c _ _ n t nofun).1, Reps.car c xs vs r⟩
 | .ins C fs, _, h => by
  unfold Rep at h ⊢
  obtain ⟨a, dx, ws, e, n, t, r⟩ := h
  exact ⟨a, dx, ws, e, (c _ _ n t nofun).2, (c _ _ n t nofun).1, RepF.car c fs ws r⟩
theorem Reps.car (c : Car O O' H H') : ∀ (xs : List PV) (vs : List V), Reps K O H xs vs → Reps K O' H' xs vs
 | [], _, h => by unfold Reps at h ⊢; exact h
 | x :: xs, _, h => by
  unfold Reps at h ⊢
  obtain ⟨v, us, e, r, t⟩ := h
  exact ⟨v, us, e, Rep.car c x v r, Reps.car c xs us t⟩
theorem RepF.car (c : Car O O' H H') : ∀ (xs : List (Str × PV)) (vs : List (Str × V)), RepF K O H xs vs → RepF K O' H' xs vs
 | [], _, h => by unfold RepF at h ⊢; exact h
 | (n, x) :: xs, _, h => by
  unfold RepF at h ⊢
  obtain ⟨v, us, e, r, t⟩ := h
  exact ⟨v, us, e, Rep.car c x v r, RepF.car c xs us t⟩
theorem RepD.car (c : Car O O' H H') : ∀ (xs : List (Key × PV)) (vs : List (Key × V)), RepD K O H xs vs → RepD K O' H' xs vs
 | [], _, h => by unfold RepD at h ⊢; exact h
 | (n, x) :: xs, _, h => by
  unfold RepD at h ⊢
  obtain ⟨v, us, e, r, t⟩ := h
  exact ⟨v, us, e, Rep.car c x v r, RepD.car c xs us t⟩
end
theorem Car.mono {O O' : Addr → Prop} {H : Hp} (h : ∀ a, O' a → O a) : Car O O' H H := fun a o n e _ => ⟨e, fun z => n (h a z)⟩
theorem Rep.mono {x v} (h : ∀ a, O' a → O a) (r : Rep K O H x v) : Rep K O' H x v := r.car (Car.mono h)
theorem Reps.mono {x v} (h : ∀ a, O' a → O a) (r : Reps K O H x v) : Reps K O' H x v := r.car (Car.mono h)
theorem RepF.mono {x v} (h : ∀ a, O' a → O a) (r : RepF K O H x v) : RepF K O' H x v := r.car (Car.mono h)
theorem RepD.mono {x v} (h : ∀ a, O' a → O a) (r : RepD K O H x v) : RepD K O' H x v := r.car (Car.mono h)
def Nw (H : Hp) (b : Addr) : Prop := ∀ o, H b = some o → ∃ ps, o = .tbl ps
theorem Nw.of {b : Addr} (h : H b = none) : Nw H b := fun o e => by rw [h] at e; cases e
theorem Nw.no {b : Addr} {o : HO} (n : Nw H b) (h : H b = some o) (t : ∀ ps, o ≠ .tbl ps) : False := by
 obtain ⟨ps, e⟩ := n o h
 exact t ps e
theorem nw_ne {a b : Addr} {u : HO} (z : b ≠ a) (n : Nw (upd H a u) b) : Nw H b := fun o h => n o (by rw [upd_ne z]; exact h)
theorem nw_same {a : Addr} {u : HO} (t : ∀ ps, u ≠ .tbl ps) : ¬ Nw (upd H a u) a := fun n => n.no upd_same t
theorem live_upd {a b : Addr} {u : HO} (t : ∀ ps, u ≠ .tbl ps) (n : ¬ Nw H b) : ¬ Nw (upd H a u) b := by
 by_cases z : b = a
 ·rw [z]; exact nw_same t
 ·exact fun q => n (nw_ne z q)
def Trk (O : Addr → Prop) (H : Hp) : Prop := ∀ a, O a → ¬ Nw H a
theorem Trk.same (t : Trk O H) (s : Same H H') : Trk O H' := fun a h e => t a h fun o q => e o (s a o q)
theorem Car.same (s : Same H H') : Car O O H H' := fun a o n e _ => ⟨s a o e, n⟩
theorem Same.new {p : Addr} {o : HO} (hp : H p = none) : Same H (upd H p o) := fun b u e => by rw [upd_ne (ne_of_none e hp)]; exact e
theorem Trk.fresh {p : Addr} (t : Trk O H) (hp : H p = none) : ¬ O p := fun h => t p h (Nw.of hp)
-- lists
theorem Reps.nil : Reps K O H [] [] := by unfold Reps; rfl
theorem Reps.cons {x xs v vs} (h : Rep K O H x v) (t : Reps K O H xs vs) : Reps K O H (x :: xs) (v :: vs) := by unfold Reps; exact ⟨v, vs, rfl, h, t⟩
theorem Reps.inv {x : PV} {xs : List PV} {vs : List V} (h : Reps K O H (x :: xs) vs) : ∃ v us, vs = v :: us ∧ Rep K O H x v ∧ Reps K O H xs us := by unfold Reps at h; exact h
theorem Reps.inv0 {vs : List V} (h : Reps K O H [] vs) : vs = [] := by unfold Reps at h; exact h
theorem Reps.len : ∀ {xs : List PV} {vs : List V}, Reps K O H xs vs → vs.length = xs.length
 | [], _, h => by rw [h.inv0]; rfl
 | x :: xs, _, h => by
  obtain ⟨v, us, rfl, _, t⟩ := h.inv
  rw [List.length_cons, List.length_cons, t.len]
theorem Reps.get : ∀ {xs : List PV} {vs : List V} {i : Nat} {x : PV}, Reps K O H xs vs → xs[i]? = some x → ∃ v, vs[i]? = some v ∧ Rep K O H x v
 | [], _, _, _, _, e => by simp at e
 | x :: xs, _, 0, _, h, e => by
  obtain ⟨v, us, rfl, r, t⟩ := h.inv
  simp at e; subst e; exact ⟨v, rfl, r⟩
 | x :: xs, _, i + 1, _, h, e => by
  obtain ⟨v, us, rfl, r, t⟩ := h.inv
  obtain ⟨u, h1, h2⟩ := t.get (i := i) (by simpa using e)
  exact ⟨u, by simpa using h1, h2⟩
theorem Reps.app : ∀ {xs ys : List PV} {vs us : List V}, Reps K O H xs vs → Reps K O H ys us → Reps K O H (xs ++ ys) (vs ++ us)
 | [], _, _, _, h, t => by rw [h.inv0]; exact t
 | x :: xs, _, _, _, h, t => by
  obtain ⟨v, us, rfl, r, q⟩ := h.inv
  exact .cons r (q.app t)
theorem Reps.take : ∀ {xs : List PV} {vs : List V} (n : Nat), Reps K O H xs vs → Reps K O H (xs.take n) (vs.take n)
 | [], _, n, h => by rw [h.inv0]; simp; exact .nil
 | x :: xs, _, 0, h => by simp; exact .nil
 | x :: xs, _, n + 1, h => by
  obtain ⟨v, us, rfl, r, q⟩ := h.inv
  exact .cons r (q.take n)
theorem Reps.drop : ∀ {xs : List PV} {vs : List V} (n : Nat), Reps K O H xs vs → Reps K O H (xs.drop n) (vs.drop n)
 | [], _, n, h => by rw [h.inv0]; simp; exact .nil
 | x :: xs, _, 0, h => by simpa using h
 | x :: xs, _, n + 1, h => by
  obtain ⟨v, us, rfl, r, q⟩ := h.inv
  exact q.drop n
theorem Reps.set : ∀ {xs : List PV} {vs : List V} {x v} (i : Nat), Reps K O H xs vs → Rep K O H x v → Reps K O H (xs.set i x) (vs.set i v)
 | [], _, _, _, n, h, _ => by rw [h.inv0]; exact .nil
 | y :: xs, _, _, _, 0, h, r => by
  obtain ⟨v, us, rfl, _, q⟩ := h.inv
  exact .cons r q
 | y :: xs, _, _, _, n + 1, h, r => by
  obtain ⟨v, us, rfl, r0, q⟩ := h.inv
  exact .cons r0 (q.set n r)
theorem RepF.look : ∀ {fs : List (Str × PV)} {ws : List (Str × V)}, RepF K O H fs ws → ∀ f : Str, (∀ x, fs.lookup f = some x → ∃ v, ws.lookup f = some v ∧ Rep K O H x v) ∧ (fs.lookup f = none → ws.lookup f = none)
 | [], _, h, f => by
  unfold RepF at h; subst h
  refine ⟨fun x e => ?_, fun _ => rfl⟩
  simp at e
 | (n, x) :: fs, _, h, f => by
  unfold RepF at h
  obtain ⟨v, us, rfl, r, t⟩ := h
  obtain ⟨h1, h2⟩ := t.look f
  by_cases e : f = n
  ·subst e
   simp only [List.lookup_cons_self]
   exact ⟨fun y q => by cases q; exact ⟨v, rfl, r⟩, fun q => nomatch q⟩
  ·have e' : (f == n) = false := by simpa using e
   simp only [List.lookup_cons, e']
   exact ⟨h1, h2⟩
theorem RepF.len : ∀ {fs : List (Str × PV)} {ws : List (Str × V)}, RepF K O H fs ws → ws.length = fs.length
 | [], _, h => by unfold RepF at h; rw [h]; rfl
 | (n, x) :: fs, _, h => by
  unfold RepF at h
  obtain ⟨v, us, rfl, r, t⟩ := h
  rw [List.length_cons, List.length_cons, t.len]
theorem RepD.nil : RepD K O H [] [] := by unfold RepD; rfl
theorem RepD.len : ∀ {fs : List (Key × PV)} {ws : List (Key × V)}, RepD K O H fs ws → ws.length = fs.length
 | [], _, h => by unfold RepD at h; rw [h]; rfl
 | (n, x) :: fs, _, h => by
  unfold RepD at h
  obtain ⟨v, us, rfl, r, t⟩ := h
  rw [List.length_cons, List.length_cons, t.len]
theorem RepD.keys : ∀ {fs : List (Key × PV)} {ws : List (Key × V)}, RepD K O H fs ws → ws.map (·.1) = fs.map (·.1)
 | [], _, h => by unfold RepD at h; rw [h]; rfl
 | (n, x) :: fs, _, h => by
  unfold RepD at h
  obtain ⟨v, us, rfl, r, t⟩ := h
  rw [List.map_cons, List.map_cons, t.keys]
end
inductive Ow where
 | l (xs : List PV) | o (C : Addr) (fs : List (Str × PV)) | d (kvs : List (Key × PV))
inductive Sl where
 | no | va (x : PV) | ow (o : Ow)
abbrev EP' := List Sl
def OwAt (K : PySem.W.Frag) (O : Addr → Prop) (H : Hp) (a : Addr) : Ow → Prop
 | .l xs => ∃ vs, H a = some (.lst vs) ∧ Reps K O H xs vs
 | .o C fs => ∃ dx ws, H a = some (.ins C dx ws) ∧ RepF K O H fs ws
 | .d kvs => ∃ ws, H a = some (.dK ws) ∧ RepD K O H kvs ws
def IsOwn (σ : St) (η : EP') (a : Addr) : Prop := ∃ (i : Nat) (o : Ow), σ[i]? = some (some (V.ref a)) ∧ η[i]? = some (Sl.ow o)
def Oof (F : Addr → Prop) (σ : St) (η : EP') : Addr → Prop := fun a => F a ∨ IsOwn σ η a
structure Rs (K : PySem.W.Frag) (T : List (Addr × Str)) (F : Addr → Prop) (σ : St) (η : EP') (H : Hp) : Prop where
 len : σ.length = η.length
 va : ∀ (i : Nat) (x : PV), η[i]? = some (Sl.va x) → ∃ v, σ[i]? = some (some v) ∧ Rep K (Oof F σ η) H x v
 ow : ∀ (i : Nat) (o : Ow), η[i]? = some (Sl.ow o) → ∃ a, σ[i]? = some (some (V.ref a)) ∧ OwAt K (Oof F σ η) H a o ∧ ¬ F a
 nd : ∀ (i j : Nat) (o o' : Ow) (a : Addr), η[i]? = some (Sl.ow o) → η[j]? = some (Sl.ow o') → σ[i]? = some (some (V.ref a)) → σ[j]? = some (some (V.ref a)) → i = j
 tr : Trk F H
 tb : LamX.Tabs T H
structure Ext (σ : St) (η : EP') (σ' : St) (η' : EP') (H H' : Hp) : Prop where
 keep : ∀ b o, H b = some o → ¬ IsOwn σ η b → (∀ ps, o ≠ .tbl ps) → H' b = some o
 live : ∀ b, ¬ Nw H b → ¬ Nw H' b
 new : ∀ b, IsOwn σ' η' b → IsOwn σ η b ∨ Nw H b
 fst : ∀ o' : Ow, η'[0]? = some (Sl.ow o') → ∃ o : Ow, η[0]? = some (Sl.ow o) ∧ σ'[0]? = σ[0]?
section
variable {K : PySem.W.Frag} {T : List (Addr × Str)} {F : Addr → Prop} {σ σ1 σ2 : St} {η η1 η2 : EP'} {H H1 H2 : Hp}
theorem Ext.refl : Ext σ η σ η H H := ⟨fun _ _ e _ _ => e, fun _ e => e, fun _ e => .inl e, fun o e => ⟨o, e, rfl⟩⟩
theorem Ext.trans (a : Ext σ η σ1 η1 H H1) (b : Ext σ1 η1 σ2 η2 H1 H2) : Ext σ η σ2 η2 H H2 := by
 refine ⟨fun c o e n t => b.keep c o (a.keep c o e n t) ?_ t, fun c e => b.live c (a.live c e), fun c z => ?_, fun o e => ?_⟩
 ·intro z
  rcases a.new c z with q | q
  ·exact n q
  ·exact q.no e t
 ·rcases b.new c z with q | q
  ·exact a.new c q
  ·by_cases e : Nw H c
   ·exact .inr e
   ·exact absurd q (a.live c e)
 ·obtain ⟨o1, e1, s1⟩ := b.fst o e
  obtain ⟨o2, e2, s2⟩ := a.fst o1 e1
  exact ⟨o2, e2, s1.trans s2⟩
theorem Ext.same (s : Same H H1) : Ext σ η σ η H H1 := by
 refine ⟨fun b o e _ _ => s b o e, fun b e q => e fun o r => q o (s b o r), fun _ z => .inl z, fun o e => ⟨o, e, rfl⟩⟩
theorem Ext.nw {b : Addr} (e : Ext σ η σ1 η1 H H1) (n : Nw H1 b) : Nw H b := Classical.byContradiction fun z => e.live b z n
theorem Rs.trO (R : Rs K T F σ η H) : Trk (Oof F σ η) H := by
 rintro a (h | ⟨i, o, h1, h2⟩) e
 ·exact R.tr a h e
 ·obtain ⟨b, q1, q2, _⟩ := R.ow i o h2
  rw [h1] at q1; cases q1
  cases o with
  | l xs => obtain ⟨vs, q, _⟩ := q2; exact e.no q nofun
  | o C fs => obtain ⟨dx, ws, q, _⟩ := q2; exact e.no q nofun
  | d kvs => obtain ⟨ws, q, _⟩ := q2; exact e.no q nofun
theorem Ext.car (e : Ext σ η σ1 η1 H H1) : Car (Oof F σ η) (Oof F σ1 η1) H H1 := fun a o n h t =>
 ⟨e.keep a o h (fun z => n (.inr z)) t, fun z => z.elim (fun z => n (.inl z)) fun z => (e.new a z).elim (fun z => n (.inr z)) fun q => q.no h t⟩
theorem OwAt.car {O O' : Addr → Prop} {a : Addr} {o : Ow} (c : Car O O' H H1) (h : OwAt K O H a o) (e : H1 a = H a) : OwAt K O' H1 a o := by
 cases o with
 | l xs =>
  obtain ⟨vs, q, r⟩ := h
  exact ⟨vs, e.trans q, r.car c⟩
 | o C fs =>
  obtain ⟨dx, ws, q, r⟩ := h
  exact ⟨dx, ws, e.trans q, r.car c⟩
 | d kvs =>
  obtain ⟨ws, q, r⟩ := h
  exact ⟨ws, e.trans q, r.car c⟩
theorem Rs.same (R : Rs K T F σ η H) (s : Same H H1) : Rs K T F σ η H1 := by
 have c : Car (Oof F σ η) (Oof F σ η) H H1 := Car.same s
 refine ⟨R.len, fun i x e => ?_, fun i o e => ?_, R.nd, R.tr.same s, R.tb.ext s⟩
 ·obtain ⟨v, h1, h2⟩ := R.va i x e
  exact ⟨v, h1, h2.car c⟩
 ·obtain ⟨a, h1, h2, h3⟩ := R.ow i o e
  refine ⟨a, h1, h2.car c ?_, h3⟩
  cases q : H a with
  | none => exact absurd (Nw.of q) (R.trO a (.inr ⟨i, o, h1, e⟩))
  | some u => exact s a u q
end
abbrev TEp := EP' → (PV → EP' → Prop) → Prop
abbrev TTp := EP' → (Bool → EP' → Prop) → Prop
abbrev TAp := EP' → (List PV → EP' → Prop) → Prop
structure EndsP where
 nx : EP' → Prop
 rt : PV → EP' → Prop
 bk : EP' → Prop := fun _ => False
 ct : EP' → Prop := fun _ => False
abbrev TSp := EndsP → EP' → Prop
def up (K : PySem.W.Frag) (T : List (Addr × Str)) (tp : TEp) : TE := fun σ H Q => ∃ F η P, Rs K T F σ η H ∧ tp η P ∧ ∀ x η' v H', P x η' → Ext σ η σ η' H H' → Rs K T F σ η' H' → Rep K (Oof F σ η') H' x v → Q v H'
def upB (K : PySem.W.Frag) (T : List (Addr × Str)) (tp : TTp) : TT := fun σ H Q => ∃ F η P, Rs K T F σ η H ∧ tp η P ∧ ∀ x η' H', P x η' → Ext σ η σ η' H H' → Rs K T F σ η' H' → Q x H'
def upA (K : PySem.W.Frag) (T : List (Addr × Str)) (tp : TAp) : TA := fun σ H Q => ∃ F η P, Rs K T F σ η H ∧ tp η P ∧ ∀ xs η' vs H', P xs η' → Ext σ η σ η' H H' → Rs K T F σ η' H' → Reps K (Oof F σ η') H' xs vs → Q vs H'
def upS (K : PySem.W.Frag) (T : List (Addr × Str)) (ts : TSp) : TS := fun D σ H => ∃ F η D', Rs K T F σ η H ∧ ts D' η ∧
 (∀ η' σ' H', D'.nx η' → Ext σ η σ' η' H H' → Rs K T F σ' η' H' → D.nx σ' H') ∧
 (∀ η' σ' H', D'.bk η' → Ext σ η σ' η' H H' → Rs K T F σ' η' H' → D.bk σ' H') ∧
 (∀ η' σ' H', D'.ct η' → Ext σ η σ' η' H H' → Rs K T F σ' η' H' → D.ct σ' H') ∧
 (∀ x η' σ' v H', D'.rt x η' → Ext σ η σ' η' H H' → Rs K T F σ' η' H' → Rep K (Oof F σ' η') H' x v → D.rt v H')
section
variable {X : Cx}
theorem PE.weak {e : Expr} {t t' : TE} (h : PE X e t) (w : ∀ σ H Q, t' σ H Q → t σ H Q) : PE X e t' := ⟨fun pins s σ H Q I q => h.run pins s σ H Q I (w _ _ _ q)⟩
theorem PT.weak {e : Expr} {t t' : TT} (h : PT X e t) (w : ∀ σ H Q, t' σ H Q → t σ H Q) : PT X e t' := ⟨fun pins s σ H Q I q => h.run pins s σ H Q I (w _ _ _ q)⟩
theorem PW.weak {e : Expr} {t t' : TT} (h : PW X e t) (w : ∀ σ H Q, t' σ H Q → t σ H Q) : PW X e t' := ⟨fun wh pins s σ H Q I q => h.run wh pins s σ H Q I (w _ _ _ q)⟩
theorem PA.weak {e : List Expr} {t t' : TA} (h : PA X e t) (w : ∀ σ H Q, t' σ H Q → t σ H Q) : PA X e t' := ⟨fun pos pins s σ H Q I q => h.run pos pins s σ H Q I (w _ _ _ q)⟩
theorem PS.weak {e : Stmt} {t t' : TS} (h : PS X e t) (w : ∀ D σ H, t' D σ H → t D σ H) : PS X e t' := ⟨fun pins s σ H D I q => h.run pins s σ H D I (w _ _ _ q)⟩
theorem PSs.weak {e : List Stmt} {t t' : TS} (h : PSs X e t) (w : ∀ D σ H, t' D σ H → t D σ H) : PSs X e t' := ⟨fun pins s σ H D I q => h.run pins s σ H D I (w _ _ _ q)⟩
end
section
variable {K : PySem.W.Frag} {T : List (Addr × Str)} {F : Addr → Prop} {σ : St} {η : EP'} {H H' : Hp} {i : Nat} {x : PV} {v : V} {a : Addr} {o : Ow}
theorem ne_set {α : Type} {l : List α} {i j : Nat} {x : α} (h : j ≠ i) : (l.set i x)[j]? = l[j]? := List.getElem?_set_ne (Ne.symm h)
theorem at_set {α : Type} {l : List α} {i : Nat} {x y : α} (h : (l.set i x)[i]? = some y) : y = x := by
 by_cases hi : i < l.length
 ·rw [List.getElem?_set_self hi] at h; exact (Option.some.inj h).symm
 ·rw [List.getElem?_eq_none (by simpa using hi)] at h; cases h
theorem own_set {b : Addr} {w : V} (h : IsOwn (σ.set i (some w)) (η.set i (.va x)) b) : IsOwn σ η b := by
 obtain ⟨j, o, h1, h2⟩ := h
 by_cases e : j = i
 ·subst e; cases at_set h2
 ·rw [ne_set e] at h1 h2; exact ⟨j, o, h1, h2⟩
theorem own_set1 {b : Addr} (h : IsOwn σ (η.set i (.va x)) b) : IsOwn σ η b := by
 obtain ⟨j, o, h1, h2⟩ := h
 by_cases e : j = i
 ·subst e; cases at_set h2
 ·rw [ne_set e] at h2; exact ⟨j, o, h1, h2⟩
theorem Oof_mono {σ' : St} {η' : EP'} (h : ∀ b, IsOwn σ' η' b → IsOwn σ η b) : ∀ b, Oof F σ' η' b → Oof F σ η b := fun b z => z.elim .inl fun z => .inr (h b z)
theorem OwAt.mono {O O' : Addr → Prop} (h : ∀ b, O' b → O b) (r : OwAt K O H a o) : OwAt K O' H a o := r.car (Car.mono h) rfl
theorem Rs.setv (R : Rs K T F σ η H) (r : Rep K (Oof F σ η) H x v) : Rs K T F (σ.set i (some v)) (η.set i (.va x)) H := by
 have m : ∀ b, Oof F (σ.set i (some v)) (η.set i (.va x)) b → Oof F σ η b := Oof_mono fun b z => own_set z
 refine ⟨by simpa using R.len, fun j y e => ?_, fun j o e => ?_, fun j k o o' a e1 e2 e3 e4 => ?_, R.tr, R.tb⟩
 ·by_cases h : j = i
  ·subst h
   have := at_set e; cases this
   have hj : j < η.length := by
    have := (List.getElem?_eq_some_iff.mp e).1; simpa using this
   exact ⟨v, by rw [List.getElem?_set_self (by rw [R.len]; exact hj)], r.mono m⟩
  ·rw [ne_set h] at e ⊢
   obtain ⟨w, h1, h2⟩ := R.va j y e
   exact ⟨w, h1, h2.mono m⟩
 ·by_cases h : j = i
  ·subst h; cases at_set e
  ·rw [ne_set h] at e ⊢
   obtain ⟨a, h1, h2, h3⟩ := R.ow j o e
   exact ⟨a, h1, h2.mono m, h3⟩
 ·have hj : j ≠ i := fun h => by subst h; cases at_set e1
  have hk : k ≠ i := fun h => by subst h; cases at_set e2
  rw [ne_set hj] at e1 e3
  rw [ne_set hk] at e2 e4
  exact R.nd j k o o' a e1 e2 e3 e4
theorem Ext.setv {w : V} : Ext σ η (σ.set i (some w)) (η.set i (.va x)) H H := ⟨fun _ _ e _ _ => e, fun _ e => e, fun _ z => .inl (own_set z), fun o e => by
 by_cases h : (0 : Nat) = i
 ·subst h; cases at_set e
 ·rw [ne_set h] at e ⊢
  exact ⟨o, e, rfl⟩⟩
def wkV : PV → PV
 | .pln xs => .tup xs
 | x => x
theorem Rep.wkV {O : Addr → Prop} {x : PV} {v : V} (h : Rep K O H x v) : Rep K O H (wkV x) v := by
 cases x <;> try exact h
 unfold Z.wkV
 unfold Rep at h ⊢
 obtain ⟨a, vs, o, e, n, h, d, r⟩ := h
 exact ⟨a, vs, e, .inl ⟨n, .inr ⟨o, h⟩⟩, r⟩
def frz : Ow → PV
 | .l xs => .lst xs
 | .o C fs => .ins C fs
 | .d kvs => .dic kvs
theorem OwAt.frz {O : Addr → Prop} (h : OwAt K O H a o) (n : ¬ O a) : Rep K O H (frz o) (.ref a) := by
 cases o with
 | l xs =>
  obtain ⟨vs, h1, h2⟩ := h
  unfold Z.frz Rep
  exact ⟨a, vs, rfl, n, h1, h2⟩
 | o C fs =>
  obtain ⟨dx, ws, h1, h2⟩ := h
  unfold Z.frz Rep
  exact ⟨a, dx, ws, rfl, n, h1, h2⟩
 | d kvs =>
  obtain ⟨ws, h1, h2⟩ := h
  unfold Z.frz Rep
  exact ⟨a, ws, rfl, n, h1, h2⟩
theorem Rs.freeze (R : Rs K T F σ η H) (e : η[i]? = some (.ow o)) : ∃ a, σ[i]? = some (some (V.ref a)) ∧ Rs K T F σ (η.set i (.va (frz o))) H ∧ Rep K (Oof F σ (η.set i (.va (frz o)))) H (frz o) (.ref a) := by
 obtain ⟨a, s, r, nf⟩ := R.ow i o e
 have m : ∀ b, Oof F σ (η.set i (.va (frz o))) b → Oof F σ η b := Oof_mono fun b z => own_set1 z
 have na : ¬ Oof F σ (η.set i (.va (frz o))) a := by
  rintro (z | ⟨j, o', h1, h2⟩)
  ·exact nf z
  ·have hj : j ≠ i := fun h => by subst h; cases at_set h2
   rw [ne_set hj] at h2
   exact hj (R.nd j i o' o a h2 e h1 s)
 have rep := (r.mono m).frz na
 refine ⟨a, s, ⟨by simpa using R.len, fun j y q => ?_, fun j o' q => ?_, fun j k p p' b e1 e2 e3 e4 => ?_, R.tr, R.tb⟩, rep⟩
 ·by_cases h : j = i
  ·subst h
   cases at_set q
   exact ⟨_, s, rep⟩
  ·rw [ne_set h] at q
   obtain ⟨w, h1, h2⟩ := R.va j y q
   exact ⟨w, h1, h2.mono m⟩
 ·by_cases h : j = i
  ·subst h; cases at_set q
  ·rw [ne_set h] at q
   obtain ⟨b, h1, h2, h3⟩ := R.ow j o' q
   exact ⟨b, h1, h2.mono m, h3⟩
 ·have hj : j ≠ i := fun h => by subst h; cases at_set e1
  have hk : k ≠ i := fun h => by subst h; cases at_set e2
  rw [ne_set hj] at e1
  rw [ne_set hk] at e2
  exact R.nd j k p p' b e1 e2 e3 e4
theorem Ext.freeze : Ext σ η σ (η.set i (.va x)) H H := ⟨fun _ _ e _ _ => e, fun _ e => e, fun _ z => .inl (own_set1 z), fun o e => by
 by_cases h : (0 : Nat) = i
 ·subst h; cases at_set e
 ·rw [ne_set h] at e
  exact ⟨o, e, rfl⟩⟩
end
section
variable {X : Cx} {T : List (Addr × Str)}
def Out (K : PySem.W.Frag) (O : Addr → Prop) (H : Hp) (P : PV → Prop) (Q : VK) : Prop := ∀ z v H', P z → Same H H' → Rep K O H' z v → Q v H'
abbrev R2p := PV → PV → (PV → Prop) → Prop
def r2 (K : PySem.W.Frag) (r : R2p) : R2 := fun x y H Q => ∃ O px py P, Trk O H ∧ Rep K O H px x ∧ Rep K O H py y ∧ r px py P ∧ Out K O H P Q
abbrev R1p := List PV → (PV → Prop) → Prop
def r1 (K : PySem.W.Frag) (r : R1p) : List V → Hp → VK → Prop := fun vs H Q => ∃ O ps P, Trk O H ∧ Reps K O H ps vs ∧ r ps P ∧ Out K O H P Q
def tOpP (r : R2p) (ta tb : TEp) : TEp := fun η P => ta η fun x η1 => tb η1 fun y η2 => r x y fun z => P z η2
def tCBP (r : R1p) (t : TAp) : TEp := fun η P => t η fun xs η1 => r xs fun z => P z η1
def tConP (x : PV) : TEp := fun η P => P x η
def tVarP (i : Nat) : TEp := fun η P => match η[i]? with
 | some (.va x) => P x η
 | some (.ow o) => P (frz o) (η.set i (.va (frz o)))
 | _ => False
def tNilP : TAp := fun η P => P [] η
def tConsP (ta : TEp) (t : TAp) : TAp := fun η P => ta η fun x η1 => t η1 fun xs η2 => P (x :: xs) η2
variable {e a b c : Expr} {es : List Expr} {ta tb tc : TEp} {t : TAp} {pos : Pos}
theorem z_var {i : Nat} {x : Str} (h : PE X (.Name x pos) (tVar i)) : PE X (.Name x pos) (up X.K T (tVarP i)) := by
 refine PE.weak h fun σ H Q q => ?_
 obtain ⟨F, η, P, R, h, k⟩ := q
 unfold tVarP at h
 split at h
 ·rename_i y e
  obtain ⟨v, h1, h2⟩ := R.va i y e
  exact ⟨v, h1, k _ _ _ _ h .refl R h2⟩
 ·rename_i o e
  obtain ⟨a, h1, h2, h3⟩ := R.freeze e
  exact ⟨_, h1, k _ _ _ _ h .freeze h2 h3⟩
 ·cases h
theorem zv (i : Nat) {x : Str} {pos : Pos} (hN : X.N[i]? = some x := by rfl) (hv : Vis X.env.scope x := by first | exact Or.inl rfl | exact Or.inr (Or.inl rfl) | exact Or.inr (Or.inr rfl)) (hd : (x == ("__debug__" : Str)) = false := by decide)
  (hcd : (x == ("__classdict__" : Str)) = false := by decide) : PE X (.Name x pos) (up X.K T (tVarP i)) := z_var (pe_var hN hv hd hcd)
theorem z_con {v : V} {x : PV} (h : PE X e (tC v)) (r : ∀ O H, Rep X.K O H x v) : PE X e (up X.K T (tConP x)) := by
 refine PE.weak h fun σ H Q q => ?_
 obtain ⟨F, η, P, R, h, k⟩ := q
 exact k _ _ _ _ h .refl R (r _ _)
theorem z_int {i j} : PE X (.Constant (.int i) j pos) (up X.K T (tConP (.int i))) := z_con pe_int fun _ _ => by unfold Rep; rfl
theorem z_bl {i j} : PE X (.Constant (.bool i) j pos) (up X.K T (tConP (.bl i))) := z_con pe_bl fun _ _ => by unfold Rep; rfl
theorem z_non {j} : PE X (.Constant .none j pos) (up X.K T (tConP .non)) := z_con pe_non fun _ _ => by unfold Rep; rfl
theorem z_str {i j} : PE X (.Constant (.str i) j pos) (up X.K T (tConP (.str i))) := z_con pe_str fun _ _ => by unfold Rep; rfl
theorem z_op {op : Operator} {r : R2p} (ho : OpR X (binaryOp op) (r2 X.K r)) (ha : PE X a (up X.K T ta)) (hb : PE X b (up X.K T tb)) : PE X (.BinOp a op b pos) (up X.K T (tOpP r ta tb)) := by
 refine PE.weak (pe_op ho ha hb) fun σ H Q q => ?_
 obtain ⟨F, η, P, R, h, k⟩ := q
 refine ⟨F, η, _, R, h, fun x η1 v H1 h1 e1 R1 r1' => ⟨F, η1, _, R1, h1, fun y η2 w H2 h2 e2 R2' rw' => ?_⟩⟩
 exact ⟨Oof F σ η2, x, y, _, R2'.trO, r1'.car e2.car, rw', h2, fun z u H3 pz s rz => k z η2 u H3 pz ((e1.trans e2).trans (.same s)) (R2'.same s) rz⟩
theorem z_cmp {op : CmpOp} {r : R2p} (ho : OpR X (compareOp op) (r2 X.K r)) (ha : PE X a (up X.K T ta)) (hb : PE X b (up X.K T tb)) (hm : behindInMarks op b = false := by first | exact nomark _ | rfl) : PE X (.Compare a [op] [b] pos) (up X.K T (tOpP r ta tb)) := by
 refine PE.weak (pe_cmpR ho ha hb hm) fun σ H Q q => ?_
 obtain ⟨F, η, P, R, h, k⟩ := q
 refine ⟨F, η, _, R, h, fun x η1 v H1 h1 e1 R1 r1' => ⟨F, η1, _, R1, h1, fun y η2 w H2 h2 e2 R2' rw' => ?_⟩⟩
 exact ⟨Oof F σ η2, x, y, _, R2'.trO, r1'.car e2.car, rw', h2, fun z u H3 pz s rz => k z η2 u H3 pz ((e1.trans e2).trans (.same s)) (R2'.same s) rz⟩
def tChainP (r r' : R2p) (ta tb tc : TEp) : TEp := fun η P => ta η fun x η1 => tb η1 fun y η2 => r x y fun z => ∃ k, z = .bl k ∧ if k = true then tc η2 fun w η3 => r' y w fun z' => P z' η3 else P (.bl false) η2
theorem za_nil : PA X [] (upA X.K T tNilP) := by
 refine PA.weak pa_nil fun σ H Q q => ?_
 obtain ⟨F, η, P, R, h, k⟩ := q
 exact k [] η [] H h .refl R .nil
theorem za_cons (ha : PE X e (up X.K T ta)) (hr : PA X es (upA X.K T t)) (hs : starEach (e :: es) X.env = (false, eval e X.env) :: starEach es X.env := by rfl) : PA X (e :: es) (upA X.K T (tConsP ta t)) := by
 refine PA.weak (pa_cons ha hr hs) fun σ H Q q => ?_
 obtain ⟨F, η, P, R, h, k⟩ := q
 refine ⟨F, η, _, R, h, fun x η1 v H1 h1 e1 R1 r1' => ⟨F, η1, _, R1, h1, fun y η2 w H2 h2 e2 R2' rw' => ?_⟩⟩
 exact k (x :: y) η2 (v :: w) H2 h2 (e1.trans e2) R2' (.cons (r1'.car e2.car) rw')
theorem z_callB {x : Str} {id : String} {r : R1p} {p : Pos} (hc : CallR X (.builtin id) (r1 X.K r)) (hg : Gl X x) (hm : X.mg x = none) (hv : bootBuiltins x = some (.builtin id)) (ha : PA X (e :: es) (upA X.K T t)) (hn : x ≠ "__name__" := by decide) (hdb : (x == ("__debug__" : Str)) = false := by decide)
  (he : starEach (e :: es) X.env = (false, eval e X.env) :: starEach es X.env := by rfl) (hpl : (backTo pos (starEach es X.env)).any (·.1) = false := by rfl) : PE X (.Call (.Name x p) (e :: es) [] pos) (up X.K T (tCBP r t)) := by
 refine PE.weak (pe_callB hc hg hm hv ha hn hdb he hpl) fun σ H Q q => ?_
 obtain ⟨F, η, P, R, h, k⟩ := q
 refine ⟨F, η, _, R, h, fun x η1 v H1 h1 e1 R1 r1' => ?_⟩
 exact ⟨Oof F σ η1, x, _, R1.trO, r1', h1, fun z u H3 pz s rz => k z η1 u H3 pz (e1.trans (.same s)) (R1.same s) rz⟩
theorem z_callTy {x : Str} {id : String} {r : R1p} {p : Pos} (hc : CallR X (.type id) (r1 X.K r)) (hg : Gl X x) (hm : X.mg x = none) (hv : bootBuiltins x = some (.type id)) (ha : PA X (e :: es) (upA X.K T t)) (hn : x ≠ "__name__" := by decide) (hdb : (x == ("__debug__" : Str)) = false := by decide)
  (he : starEach (e :: es) X.env = (false, eval e X.env) :: starEach es X.env := by rfl) (hpl : (backTo pos (starEach es X.env)).any (·.1) = false := by rfl) : PE X (.Call (.Name x p) (e :: es) [] pos) (up X.K T (tCBP r t)) := by
 refine PE.weak (pe_callTy hc hg hm hv ha hn hdb he hpl) fun σ H Q q => ?_
 obtain ⟨F, η, P, R, h, k⟩ := q
 refine ⟨F, η, _, R, h, fun x η1 v H1 h1 e1 R1 r1' => ?_⟩
 exact ⟨Oof F σ η1, x, _, R1.trO, r1', h1, fun z u H3 pz s rz => k z η1 u H3 pz (e1.trans (.same s)) (R1.same s) rz⟩
def tTupP (t : TAp) : TEp := fun η P => t η fun xs η1 => xs.length ≤ sizeLine ∧ P (.tup xs) η1
def tLstP (t : TAp) : TEp := fun η P => t η fun xs η1 => xs.length ≤ sizeLine ∧ P (.lst xs) η1
theorem rep_newT {K : PySem.W.Frag} {O : Addr → Prop} {H : Hp} {p : Addr} {xs : List PV} {vs : List V} (tr : Trk O H) (hp : H p = none) (r : Reps K O H xs vs) : Rep K O (upd H p (.tup vs)) (.tup xs) (.ref p) := by
 unfold Rep
 exact ⟨p, vs, rfl, .inl ⟨tr.fresh hp, .inl upd_same⟩, r.car (Car.same (Same.new hp))⟩
theorem rep_newL {K : PySem.W.Frag} {O : Addr → Prop} {H : Hp} {p : Addr} {xs : List PV} {vs : List V} (tr : Trk O H) (hp : H p = none) (r : Reps K O H xs vs) : Rep K O (upd H p (.lst vs)) (.lst xs) (.ref p) := by
 unfold Rep
 exact ⟨p, vs, rfl, tr.fresh hp, upd_same, r.car (Car.same (Same.new hp))⟩
theorem z_tup {x1} (h : PA X es (upA X.K T t)) : PE X (.Tuple es x1 pos) (up X.K T (tTupP t)) := by
 refine PE.weak (pe_tup h) fun σ H Q q => ?_
 obtain ⟨F, η, P, R, h, k⟩ := q
 refine ⟨F, η, _, R, h, fun xs η1 vs H1 h1 e1 R1 r1' => ⟨by rw [r1'.len]; exact h1.1, fun p hp => ?_⟩⟩
 exact k _ η1 _ _ h1.2 (e1.trans (.same (Same.new hp))) (R1.same (Same.new hp)) (rep_newT R1.trO hp r1')
theorem z_lst (h : PA X es (upA X.K T t)) : PE X (.List es pos) (up X.K T (tLstP t)) := by
 refine PE.weak (pe_lst h) fun σ H Q q => ?_
 obtain ⟨F, η, P, R, h, k⟩ := q
 refine ⟨F, η, _, R, h, fun xs η1 vs H1 h1 e1 R1 r1' => ⟨by rw [r1'.len]; exact h1.1, fun p hp => ?_⟩⟩
 exact k _ η1 _ _ h1.2 (e1.trans (.same (Same.new hp))) (R1.same (Same.new hp)) (rep_newL R1.trO hp r1')
def truth : PV → Option Bool
 | .bl b => some b
 | .non => some false
 | .int i => some (i != 0)
 | .lst xs => some (!xs.isEmpty)
 | .tup xs => some (!xs.isEmpty)
 | _ => none
def tBlP (ta : TEp) : TTp := fun η P => ta η fun x η1 => match x with | .bl b => P b η1 | _ => False
theorem zt_val (h : PE X e (up X.K T ta)) (he : ∀ whole, isTrue e X.env whole = (do let v ← whole; standAt e.pos; holding [v] (truthy v)) := by intro _; rfl) : PT X e (upB X.K T (tBlP ta)) := by
 refine PT.weak (pt_val h he) fun σ H Q q => ?_
 obtain ⟨F, η, P, R, h, k⟩ := q
 refine ⟨F, η, _, R, h, fun x η1 v H1 h1 e1 R1 r1' => ?_⟩
 split at h1
 ·unfold Rep at r1'
  exact ⟨_, r1', k _ η1 H1 h1 e1 R1⟩
 ·cases h1
theorem zt_cmp {op : CmpOp} {r : R2p} (ho : OpR X (compareOp op) (r2 X.K r)) (ha : PE X a (up X.K T ta)) (hb : PE X b (up X.K T tb)) (hm : behindInMarks op b = false := by first | exact nomark _ | rfl) : PT X (.Compare a [op] [b] pos) (upB X.K T (tBlP (tOpP r ta tb))) := by
 refine PT.weak (pt_cmpR ho ha hb hm) fun σ H Q q => ?_
 obtain ⟨F, η, P, R, h, k⟩ := q
 refine ⟨F, η, _, R, h, fun x η1 v H1 h1 e1 R1 r1' => ⟨F, η1, _, R1, h1, fun y η2 w H2 h2 e2 R2' rw' => ?_⟩⟩
 refine ⟨Oof F σ η2, x, y, _, R2'.trO, r1'.car e2.car, rw', h2, fun z u H3 pz s rz => ?_⟩
 dsimp only at pz
 split at pz
 ·unfold Rep at rz
  exact ⟨_, rz, k _ η2 H3 pz ((e1.trans e2).trans (.same s)) (R2'.same s)⟩
 ·cases pz
theorem z_chain {op op' : CmpOp} {r r' : R2p} (ho : OpR X (compareOp op) (r2 X.K r)) (ho' : OpR X (compareOp op') (r2 X.K r')) (ha : PE X a (up X.K T ta)) (hb : PE X b (up X.K T tb)) (hc : PE X c (up X.K T tc))
  (pf : PE X (.Compare a [op, op'] [b, c] pos) (tChain (r2 X.K r) (r2 X.K r') (up X.K T ta) (up X.K T tb) (up X.K T tc))) : PE X (.Compare a [op, op'] [b, c] pos) (up X.K T (tChainP r r' ta tb tc)) := by
 refine PE.weak pf fun σ H Q q => ?_
 obtain ⟨F, η, P, R, h, k⟩ := q
 refine ⟨F, η, _, R, h, fun x η1 v H1 h1 e1 R1 r1' => ⟨F, η1, _, R1, h1, fun y η2 w H2 h2 e2 R2' rw' => ?_⟩⟩
 refine ⟨Oof F σ η2, x, y, _, R2'.trO, r1'.car e2.car, rw', h2, fun z u H3 pz s rz => ?_⟩
 obtain ⟨kk, rfl, pz⟩ := pz
 unfold Rep at rz
 refine ⟨kk, rz, ?_⟩
 cases kk with
 | false => exact k _ η2 _ H3 pz ((e1.trans e2).trans (.same s)) (R2'.same s) (by unfold Rep; rfl)
 | true =>
  simp only [if_true] at pz ⊢
  refine ⟨F, η2, _, R2'.same s, pz, fun z' η3 u' H4 h4 e4 R4 r4 => ?_⟩
  exact ⟨Oof F σ η3, y, z', _, R4.trO, (rw'.car (Car.same s)).car e4.car, r4, h4, fun z2 u2 H5 p5 s5 r5 => k z2 η3 u2 H5 p5 ((((e1.trans e2).trans (.same s)).trans e4).trans (.same s5)) (R4.same s5) r5⟩
def tAndP (t u : TTp) : TTp := fun η P => t η fun c η1 => if c = true then u η1 P else P false η1
def tOrP (t u : TTp) : TTp := fun η P => t η fun c η1 => if c = true then P true η1 else u η1 P
def tNotP (t : TTp) : TTp := fun η P => t η fun c η1 => P (!c) η1
variable {rest : List Expr} {tA tB : TTp}
theorem zw_and1 (ha : PT X a (upB X.K T tA)) : PW X (.BoolOp .And [a] pos) (upB X.K T tA) := pw_and1 ha
theorem zw_or1 (ha : PT X a (upB X.K T tA)) : PW X (.BoolOp .Or [a] pos) (upB X.K T tA) := pw_or1 ha
theorem zw_and (ha : PT X a (upB X.K T tA)) (hb : PW X (.BoolOp .And (b :: rest) pos) (upB X.K T tB)) : PW X (.BoolOp .And (a :: b :: rest) pos) (upB X.K T (tAndP tA tB)) := by
 refine PW.weak (pw_and ha hb) fun σ H Q q => ?_
 obtain ⟨F, η, P, R, h, k⟩ := q
 refine ⟨F, η, _, R, h, fun x η1 H1 h1 e1 R1 => ?_⟩
 cases x with
 | false => exact k _ _ _ h1 e1 R1
 | true =>
  simp only [if_true] at h1 ⊢
  exact ⟨F, η1, _, R1, h1, fun y η2 H2 h2 e2 R2' => k _ _ _ h2 (e1.trans e2) R2'⟩
theorem zw_or (ha : PT X a (upB X.K T tA)) (hb : PW X (.BoolOp .Or (b :: rest) pos) (upB X.K T tB)) : PW X (.BoolOp .Or (a :: b :: rest) pos) (upB X.K T (tOrP tA tB)) := by
 refine PW.weak (pw_or ha hb) fun σ H Q q => ?_
 obtain ⟨F, η, P, R, h, k⟩ := q
 refine ⟨F, η, _, R, h, fun x η1 H1 h1 e1 R1 => ?_⟩
 cases x with
 | true => exact k _ _ _ h1 e1 R1
 | false =>
  simp only [Bool.false_eq_true, if_false] at h1 ⊢
  exact ⟨F, η1, _, R1, h1, fun y η2 H2 h2 e2 R2' => k _ _ _ h2 (e1.trans e2) R2'⟩
theorem zt_not (ha : PT X a (upB X.K T tA)) : PT X (.UnaryOp .Not a pos) (upB X.K T (tNotP tA)) := by
 refine PT.weak (pt_not ha) fun σ H Q q => ?_
 obtain ⟨F, η, P, R, h, k⟩ := q
 exact ⟨F, η, _, R, h, fun x η1 H1 h1 e1 R1 => k _ _ _ h1 e1 R1⟩
def tAndVP (ta tb : TEp) : TEp := fun η P => ta η fun x η1 => match x with | .bl true => tb η1 P | .bl false => P (.bl false) η1 | _ => False
def tOrVP (ta tb : TEp) : TEp := fun η P => ta η fun x η1 => match x with | .bl false => tb η1 P | .bl true => P (.bl true) η1 | _ => False
def tNotVP (ta : TEp) : TEp := fun η P => ta η fun x η1 => match x with | .bl b => P (.bl (!b)) η1 | _ => False
theorem z_one {op} (h : PE X a (up X.K T ta)) : PE X (.BoolOp op [a] pos) (up X.K T ta) := pe_one h
theorem z_and (ha : PE X a (up X.K T ta)) (hb : PE X (.BoolOp .And (b :: rest) pos) (up X.K T tb)) : PE X (.BoolOp .And (a :: b :: rest) pos) (up X.K T (tAndVP ta tb)) := by
 refine PE.weak (pe_and ha hb) fun σ H Q q => ?_
 obtain ⟨F, η, P, R, h, k⟩ := q
 refine ⟨F, η, _, R, h, fun x η1 v H1 h1 e1 R1 r => ?_⟩
 split at h1
 ·unfold Rep at r
  exact ⟨true, r, F, η1, _, R1, h1, fun y η2 w H2 h2 e2 R2' r2' => k _ _ _ _ h2 (e1.trans e2) R2' r2'⟩
 ·have r' := r
  unfold Rep at r'
  exact ⟨false, r', k _ _ _ _ h1 e1 R1 (by unfold Rep; rfl)⟩
 ·cases h1
theorem z_not (ha : PE X a (up X.K T ta)) : PE X (.UnaryOp .Not a pos) (up X.K T (tNotVP ta)) := by
 refine PE.weak (pe_not ha) fun σ H Q q => ?_
 obtain ⟨F, η, P, R, h, k⟩ := q
 refine ⟨F, η, _, R, h, fun x η1 v H1 h1 e1 R1 r => ?_⟩
 split at h1
 ·unfold Rep at r
  exact ⟨_, r, k _ _ _ _ h1 e1 R1 (by unfold Rep; rfl)⟩
 ·cases h1
def tIfP (t : TTp) (ta tb : TEp) : TEp := fun η P => t η fun c η1 => if c = true then ta η1 P else tb η1 P
theorem z_ifExp (hc : PT X c (upB X.K T tA)) (ha : PE X a (up X.K T ta)) (hb : PE X b (up X.K T tb)) : PE X (.IfExp c a b pos) (up X.K T (tIfP tA ta tb)) := by
 refine PE.weak (pe_ifExp hc ha hb) fun σ H Q q => ?_
 obtain ⟨F, η, P, R, h, k⟩ := q
 refine ⟨F, η, _, R, h, fun x η1 H1 h1 e1 R1 => ?_⟩
 cases x with
 | true =>
  simp only [if_true] at h1 ⊢
  exact ⟨F, η1, _, R1, h1, fun y η2 w H2 h2 e2 R2' r2' => k _ _ _ _ h2 (e1.trans e2) R2' r2'⟩
 | false =>
  simp only [Bool.false_eq_true, if_false] at h1 ⊢
  exact ⟨F, η1, _, R1, h1, fun y η2 w H2 h2 e2 R2' r2' => k _ _ _ _ h2 (e1.trans e2) R2' r2'⟩
end
section
variable {X : Cx}
theorem OpR.weak {f : Value → Value → Sem Value} {r r' : R2} (h : OpR X f r) (w : ∀ x y H Q, r' x y H Q → r x y H Q) : OpR X f r' := fun pins s σ H x y v u Q I rx ry q => h pins s σ H x y v u Q I rx ry (w _ _ _ _ q)
theorem CallR.weak {f : Value} {r r' : List V → Hp → VK → Prop} (h : CallR X f r) (w : ∀ x H Q, r' x H Q → r x H Q) : CallR X f r' := fun pins s σ H xs us Q I r q => h pins s σ H xs us Q I r (w _ _ _ q)
variable {K : PySem.W.Frag} {O : Addr → Prop} {H : Hp} {v : V} {P : PV → Prop} {Q : VK}
-- inversion
theorem Rep.int_ {i} (h : Rep K O H (.int i) v) : v = .int i := by unfold Rep at h; exact h
theorem Rep.str_ {i} (h : Rep K O H (.str i) v) : v = .str i := by unfold Rep at h; exact h
theorem Rep.bl_ {i} (h : Rep K O H (.bl i) v) : v = .bl i := by unfold Rep at h; exact h
theorem Rep.non_ (h : Rep K O H .non v) : v = .non := by unfold Rep at h; exact h
theorem Rep.raw_ {u} (h : Rep K O H (.raw u) v) : v = u := by unfold Rep at h; exact h
theorem Rep.lst_ {xs} (h : Rep K O H (.lst xs) v) : ∃ a vs, v = .ref a ∧ ¬ O a ∧ H a = some (.lst vs) ∧ Reps K O H xs vs := by unfold Rep at h; exact h
theorem Rep.tup_ {xs} (h : Rep K O H (.tup xs) v) : ∃ a vs, v = .ref a ∧ TupAt K O H a vs ∧ Reps K O H xs vs := by unfold Rep at h; exact h
theorem Rep.scr_ {ns} (h : Rep K O H (.scr ns) v) : ∃ a o, v = .ref a ∧ ¬ O a ∧ H a = some (.frz o (.lst (ns.map V.int))) := by unfold Rep at h; exact h
theorem Rep.ins_ {C fs} (h : Rep K O H (.ins C fs) v) : ∃ a dx ws, v = .ref a ∧ ¬ O a ∧ H a = some (.ins C dx ws) ∧ RepF K O H fs ws := by unfold Rep at h; exact h
theorem rep_int {i} : Rep K O H (.int i) (.int i) := by unfold Rep; rfl
theorem rep_str {i} : Rep K O H (.str i) (.str i) := by unfold Rep; rfl
theorem rep_bl {i} : Rep K O H (.bl i) (.bl i) := by unfold Rep; rfl
theorem rep_non : Rep K O H .non .non := by unfold Rep; rfl
theorem Out.int {i} (h : Out K O H P Q) (p : P (.int i)) : Q (.int i) H := h _ _ _ p (Same.refl _) rep_int
theorem Out.str {i} (h : Out K O H P Q) (p : P (.str i)) : Q (.str i) H := h _ _ _ p (Same.refl _) rep_str
theorem Out.bl {i} (h : Out K O H P Q) (p : P (.bl i)) : Q (.bl i) H := h _ _ _ p (Same.refl _) rep_bl
theorem Out.non (h : Out K O H P Q) (p : P .non) : Q .non H := h _ _ _ p (Same.refl _) rep_non
theorem Out.newL {xs vs} {p : Addr} (h : Out K O H P Q) (q : P (.lst xs)) (tr : Trk O H) (r : Reps K O H xs vs) (hp : H p = none) : Q (.ref p) (upd H p (.lst vs)) := h _ _ _ q (Same.new hp) (rep_newL tr hp r)
theorem Out.newT {xs vs} {p : Addr} (h : Out K O H P Q) (q : P (.tup xs)) (tr : Trk O H) (r : Reps K O H xs vs) (hp : H p = none) : Q (.ref p) (upd H p (.tup vs)) := h _ _ _ q (Same.new hp) (rep_newT tr hp r)
def rAdd : R2p := fun x y P => match x, y with
 | .int i, .int j => P (.int (i + j))
 | .str x, .str y => x.length + y.length ≤ sizeLine ∧ P (.str (x ++ y))
 | .lst xs, .lst ys => xs.length + ys.length ≤ sizeLine ∧ P (.lst (xs ++ ys))
 | .tup xs, .tup ys => xs ≠ [] ∧ xs.length + ys.length ≤ sizeLine ∧ P (.tup (xs ++ ys))
 | _, _ => False
theorem zo_add : OpR X (binaryOp .Add) (r2 X.K rAdd) := by
 refine OpR.weak ((op_add (X := X)).or (op_add_str.or (op_cat.or op_catT))) fun x y H Q h => ?_
 obtain ⟨O, px, py, P, tr, hx, hy, h, k⟩ := h
 unfold rAdd at h
 split at h
 ·exact .inl ⟨_, _, hx.int_, hy.int_, k.int h⟩
 ·exact .inr (.inl ⟨_, _, hx.str_, hy.str_, h.1, k.str h.2⟩)
 ·obtain ⟨a, vs, e1, n1, h1, q1⟩ := hx.lst_
  obtain ⟨b, us, e2, n2, h2, q2⟩ := hy.lst_
  exact .inr (.inr (.inl ⟨a, b, vs, us, e1, e2, h1, h2, by rw [q1.len, q2.len]; exact h.1, fun p hp => k.newL h.2 tr (q1.app q2) hp⟩))
 ·obtain ⟨a, vs, e1, h1, q1⟩ := hx.tup_
  obtain ⟨b, us, e2, h2, q2⟩ := hy.tup_
  refine .inr (.inr (.inr ⟨a, b, vs, us, e1, e2, h1.sq, h2.sq, fun z => h.1 (by rw [z] at q1; exact List.length_eq_zero_iff.mp q1.len.symm), by rw [q1.len, q2.len]; exact h.2.1, fun z => ?_, fun _ p hp => k.newT h.2.2 tr (q1.app q2) hp⟩))
  refine k _ _ _ h.2.2 (Same.refl _) ?_
  unfold Rep
  exact ⟨a, vs, rfl, h1, by have := q1.app q2; rw [z, List.append_nil] at this; exact this⟩
 ·cases h
def rSub : R2p := fun x y P => match x, y with
 | .int i, .int j => P (.int (i - j))
 | _, _ => False
theorem zo_sub : OpR X (binaryOp .Sub) (r2 X.K rSub) := by
 refine OpR.weak (op_sub (X := X)) fun x y H Q h => ?_
 obtain ⟨O, px, py, P, tr, hx, hy, h, k⟩ := h
 unfold rSub at h
 split at h
 ·exact ⟨_, _, hx.int_, hy.int_, k.int h⟩
 ·cases h
def rMul : R2p := fun x y P => match x, y with
 | .int i, .int j => CMul i j ∧ P (.int (i * j))
 | .lst xs, .int k => -(2 ^ 63) ≤ k ∧ k < 2 ^ 63 ∧ xs.length * k.toNat ≤ sizeLine ∧ P (.lst (List.replicate k.toNat xs).flatten)
 | _, _ => False
theorem Reps.flat {xs vs} (h : Reps K O H xs vs) : ∀ n, Reps K O H (List.replicate n xs).flatten (List.replicate n vs).flatten
 | 0 => by simp; exact .nil
 | n + 1 => by simp only [List.replicate_succ, List.flatten_cons]; exact h.app (h.flat n)
theorem zo_mul : OpR X (binaryOp .Mult) (r2 X.K rMul) := by
 refine OpR.weak ((op_mul (X := X)).or op_rep) fun x y H Q h => ?_
 obtain ⟨O, px, py, P, tr, hx, hy, h, k⟩ := h
 unfold rMul at h
 split at h
 ·exact .inl ⟨_, _, hx.int_, hy.int_, h.1, k.int h.2⟩
 ·obtain ⟨a, vs, e1, n1, h1, q1⟩ := hx.lst_
  exact .inr ⟨a, _, vs, e1, hy.int_, h1, h.1, h.2.1, by rw [q1.len]; exact h.2.2.1, fun p hp => k.newL h.2.2.2 tr (q1.flat _) hp⟩
 ·cases h
def rDiv : R2p := fun x y P => match x, y with
 | .int i, .int j => CDiv i j ∧ P (.int (i / j))
 | _, _ => False
theorem zo_div : OpR X (binaryOp .FloorDiv) (r2 X.K rDiv) := by
 refine OpR.weak (op_fdiv (X := X)) fun x y H Q h => ?_
 obtain ⟨O, px, py, P, tr, hx, hy, h, k⟩ := h
 unfold rDiv at h
 split at h
 ·exact ⟨_, _, hx.int_, hy.int_, h.1, k.int h.2⟩
 ·cases h
def rMod : R2p := fun x y P => match x, y with
 | .int i, .int j => 0 < j ∧ P (.int (i % j))
 | _, _ => False
theorem zo_mod : OpR X (binaryOp .Mod) (r2 X.K rMod) := by
 refine OpR.weak (op_mod (X := X)) fun x y H Q h => ?_
 obtain ⟨O, px, py, P, tr, hx, hy, h, k⟩ := h
 unfold rMod at h
 split at h
 ·exact ⟨_, _, hx.int_, hy.int_, h.1, k.int h.2⟩
 ·cases h
def rPow : R2p := fun x y P => match x, y with
 | .int i, .int j => CPow i j ∧ P (.int (i ^ j.toNat))
 | _, _ => False
theorem zo_pow : OpR X (binaryOp .Pow) (r2 X.K rPow) := by
 refine OpR.weak (op_pow (X := X)) fun x y H Q h => ?_
 obtain ⟨O, px, py, P, tr, hx, hy, h, k⟩ := h
 unfold rPow at h
 split at h
 ·exact ⟨_, _, hx.int_, hy.int_, h.1, k.int h.2⟩
 ·cases h
def rLt : R2p := fun x y P => match x, y with
 | .int i, .int j => P (.bl (decide (i < j)))
 | .str x, .str y => P (.bl (decide (x.cps.toList < y.cps.toList)))
 | _, _ => False
theorem zo_lt : OpR X (compareOp .Lt) (r2 X.K rLt) := by
 refine OpR.weak ((op_lt (X := X)).or op_lt_str) fun x y H Q h => ?_
 obtain ⟨O, px, py, P, tr, hx, hy, h, k⟩ := h
 unfold rLt at h
 split at h
 ·exact .inl ⟨_, _, hx.int_, hy.int_, k.bl h⟩
 ·exact .inr ⟨_, _, hx.str_, hy.str_, k.bl h⟩
 ·cases h
def rGt : R2p := fun x y P => match x, y with
 | .int i, .int j => P (.bl (decide (j < i)))
 | _, _ => False
theorem zo_gt : OpR X (compareOp .Gt) (r2 X.K rGt) := by
 refine OpR.weak (op_gt (X := X)) fun x y H Q h => ?_
 obtain ⟨O, px, py, P, tr, hx, hy, h, k⟩ := h
 unfold rGt at h
 split at h
 ·exact ⟨_, _, hx.int_, hy.int_, k.bl h⟩
 ·cases h
def rGe : R2p := fun x y P => match x, y with
 | .int i, .int j => P (.bl (decide (j ≤ i)))
 | _, _ => False
theorem zo_ge : OpR X (compareOp .GtE) (r2 X.K rGe) := by
 refine OpR.weak (op_ge (X := X)) fun x y H Q h => ?_
 obtain ⟨O, px, py, P, tr, hx, hy, h, k⟩ := h
 unfold rGe at h
 split at h
 ·exact ⟨_, _, hx.int_, hy.int_, k.bl h⟩
 ·cases h
end
mutual
def toD : PV → Option PyData
 | .non => some .none
 | .bl b => some (.bool b)
 | .int i => some (.int i)
 | .str x => some (.str x)
 | .tup xs => (toDs xs).map .tuple
 | .lst xs => (toDs xs).map .list
 | .scr _ => none
 | .ins _ _ => none
 | .dic _ => none
 | .raw _ => none
 | .pln xs => (toDs xs).map .tuple
 | .exn _ _ _ => none
def toDs : List PV → Option (List PyData)
 | [] => some []
 | x :: xs => match toD x, toDs xs with
  | some d, some ds => some (d :: ds)
  | _, _ => none
end
theorem toDs_cons {x : PV} {xs : List PV} {ds : List PyData} (h : toDs (x :: xs) = some ds) : ∃ d r, ds = d :: r ∧ toD x = some d ∧ toDs xs = some r := by
 unfold toDs at h
 split at h
 ·rename_i d r h1 h2
  cases h
  exact ⟨d, r, rfl, h1, h2⟩
 ·cases h
section
variable {K : PySem.W.Frag} {O : Addr → Prop} {H : Hp}
mutual
theorem Rep.dp : ∀ (x : PV) (v : V) (d : PyData), Rep K O H x v → toD x = some d → Dp K H v d
 | .non, _, _, h, e => by cases h.non_; unfold toD at e; cases e; exact .non
 | .bl _, _, _, h, e => by cases h.bl_; unfold toD at e; cases e; exact .bl _
 | .int _, _, _, h, e => by cases h.int_; unfold toD at e; cases e; exact .int _
 | .str _, _, _, h, e => by cases h.str_; unfold toD at e; cases e; exact .str _
 | .tup xs, _, _, h, e => by
  obtain ⟨a, vs, rfl, t, r⟩ := h.tup_
  unfold toD at e
  cases q : toDs xs with
  | none => rw [q] at e; cases e
  | some ds => rw [q] at e; cases e; exact .tup t.sq (Reps.dp xs vs ds r q)
 | .lst xs, _, _, h, e => by
  obtain ⟨a, vs, rfl, n, t, r⟩ := h.lst_
  unfold toD at e
  cases q : toDs xs with
  | none => rw [q] at e; cases e
  | some ds => rw [q] at e; cases e; exact .lst (SqL.of t) (Reps.dp xs vs ds r q)
 | .scr _, _, _, _, e => by unfold toD at e; cases e
 | .ins _ _, _, _, _, e => by unfold toD at e; cases e
 | .dic _, _, _, _, e => by unfold toD at e; cases e
 | .raw _, _, _, _, e => by unfold toD at e; cases e
 | .exn _ _ _, _, _, _, e => by unfold toD at e; cases e
 | .pln xs, _, _, h, e => by
  have h' := h.wkV
  unfold wkV at h'
  obtain ⟨a, vs, rfl, t, r⟩ := h'.tup_
  unfold toD at e
  cases q : toDs xs with
  | none => rw [q] at e; cases e
  | some ds => rw [q] at e; cases e; exact .tup t.sq (Reps.dp xs vs ds r q)
theorem Reps.dp : ∀ (xs : List PV) (vs : List V) (ds : List PyData), Reps K O H xs vs → toDs xs = some ds → DpAll K H vs ds
 | [], _, _, h, e => by rw [h.inv0]; unfold toDs at e; cases e; exact .nil
 | x :: xs, _, _, h, e => by
  obtain ⟨v, us, rfl, r, t⟩ := h.inv
  obtain ⟨d, ds, rfl, h1, h2⟩ := toDs_cons e
  exact .cons (Rep.dp x v d r h1) (Reps.dp xs us ds t h2)
end
end
section
variable {X : Cx}
def rEqP (neg : Bool) : R2p := fun x y P => ∃ d e, toD x = some d ∧ toD y = some e ∧ SeqAt.shaped d = true ∧ SeqAt.shaped e = true ∧ P (.bl (if neg then !PyData.eqv d e else PyData.eqv d e))
theorem zo_eq (hu : X.A.units + 64 < cLine) : OpR X (compareOp .Eq) (r2 X.K (rEqP false)) := by
 refine OpR.weak (op_eqD hu) fun x y H Q h => ?_
 obtain ⟨O, px, py, P, tr, hx, hy, ⟨d, e, h1, h2, h3, h4, h⟩, k⟩ := h
 exact ⟨d, e, Rep.dp _ _ _ hx h1, Rep.dp _ _ _ hy h2, h3, h4, k.bl h⟩
theorem zo_ne (hu : X.A.units + 64 < cLine) : OpR X (compareOp .NotEq) (r2 X.K (rEqP true)) := by
 refine OpR.weak (op_neD hu) fun x y H Q h => ?_
 obtain ⟨O, px, py, P, tr, hx, hy, ⟨d, e, h1, h2, h3, h4, h⟩, k⟩ := h
 exact ⟨d, e, Rep.dp _ _ _ hx h1, Rep.dp _ _ _ hy h2, h3, h4, k.bl h⟩
def rEqI (neg : Bool) : R2p := fun x y P => match x, y with
 | .int i, .int j => P (.bl (if neg then !decide (i = j) else decide (i = j)))
 | .str i, .str j => P (.bl (if neg then !decide (i = j) else decide (i = j)))
 | .bl i, .bl j => P (.bl (if neg then !decide (i = j) else decide (i = j)))
 | _, _ => False
theorem zo_eqI : OpR X (compareOp .Eq) (r2 X.K (rEqI false)) := by
 refine OpR.weak (op_eq (X := X)) fun x y H Q h => ?_
 obtain ⟨O, px, py, P, tr, hx, hy, h, k⟩ := h
 unfold rEqI at h
 split at h
 ·rw [hx.int_, hy.int_]; refine ⟨rfl, k.bl ?_⟩; simpa using h
 ·rw [hx.str_, hy.str_]; refine ⟨rfl, k.bl ?_⟩; simpa using h
 ·rw [hx.bl_, hy.bl_]; refine ⟨rfl, k.bl ?_⟩; simpa using h
 ·cases h
theorem zo_neI : OpR X (compareOp .NotEq) (r2 X.K (rEqI true)) := by
 refine OpR.weak (op_ne (X := X)) fun x y H Q h => ?_
 obtain ⟨O, px, py, P, tr, hx, hy, h, k⟩ := h
 unfold rEqI at h
 split at h
 ·rw [hx.int_, hy.int_]; refine ⟨rfl, k.bl ?_⟩; simpa using h
 ·rw [hx.str_, hy.str_]; refine ⟨rfl, k.bl ?_⟩; simpa using h
 ·rw [hx.bl_, hy.bl_]; refine ⟨rfl, k.bl ?_⟩; simpa using h
 ·cases h
def rLe : R2p := fun x y P => match x, y with
 | .int i, .int j => P (.bl (decide (i ≤ j)))
 | .str x, .str y => P (.bl (!decide (y.cps.toList < x.cps.toList)))
 | _, _ => False
theorem zo_le : OpR X (compareOp .LtE) (r2 X.K rLe) := by
 refine OpR.weak ((op_le (X := X)).or op_le_str) fun x y H Q h => ?_
 obtain ⟨O, px, py, P, tr, hx, hy, h, k⟩ := h
 unfold rLe at h
 split at h
 ·exact .inl ⟨_, _, hx.int_, hy.int_, k.bl h⟩
 ·exact .inr ⟨_, _, hx.str_, hy.str_, k.bl h⟩
 ·cases h
def rInS (neg : Bool) : R2p := fun x y P => match x, y with
 | .str a, .str z => ∃ c, a = ⟨#[c]⟩ ∧ P (.bl (if neg then !decide (c ∈ z.cps.toList) else decide (c ∈ z.cps.toList)))
 | _, _ => False
theorem zo_in : OpR X (compareOp .In) (r2 X.K (rInS false)) := by
 refine OpR.weak (op_in_sign (X := X)) fun x y H Q h => ?_
 obtain ⟨O, px, py, P, tr, hx, hy, h, k⟩ := h
 unfold rInS at h
 split at h
 ·obtain ⟨c, rfl, h⟩ := h
  exact ⟨c, _, hx.str_, hy.str_, k.bl h⟩
 ·cases h
def rLen : R1p := fun ps P => match ps with
 | [.str x] => x.length ≤ sizeLine ∧ P (.int x.length)
 | [.lst xs] => P (.int xs.length)
 | [.tup xs] => P (.int xs.length)
 | [.scr xs] => P (.int xs.length)
 | _ => False
theorem zc_len : CallR X (.builtin "len") (r1 X.K rLen) := by
 refine CallR.weak (call_len (X := X)) fun xs H Q h => ?_
 obtain ⟨O, ps, P, tr, hx, h, k⟩ := h
 unfold rLen at h
 split at h
 ·obtain ⟨v, us, rfl, r, t⟩ := hx.inv
  cases t.inv0; cases r.str_
  exact ⟨_, _, rfl, ⟨h.1, rfl⟩, k.int h.2⟩
 ·obtain ⟨v, us, rfl, r, t⟩ := hx.inv
  cases t.inv0
  obtain ⟨a, vs, rfl, n, q, rr⟩ := r.lst_
  exact ⟨_, _, rfl, .inl ⟨vs, SqL.of q, rfl⟩, by rw [rr.len]; exact k.int h⟩
 ·obtain ⟨v, us, rfl, r, t⟩ := hx.inv
  cases t.inv0
  obtain ⟨a, vs, rfl, q, rr⟩ := r.tup_
  exact ⟨_, _, rfl, .inr ⟨vs, q.sq, rfl⟩, by rw [rr.len]; exact k.int h⟩
 ·obtain ⟨v, us, rfl, r, t⟩ := hx.inv
  cases t.inv0
  obtain ⟨a, o, rfl, n, q⟩ := r.scr_
  exact ⟨_, _, rfl, .inl ⟨_, .inl (.inr ⟨o, q⟩), rfl⟩, by rw [List.length_map]; exact k.int h⟩
 ·cases h
def rAbs : R1p := fun ps P => match ps with
 | [.int i] => P (.int (if i < 0 then -i else i))
 | _ => False
theorem zc_abs : CallR X (.builtin "abs") (r1 X.K rAbs) := by
 refine CallR.weak (call_abs (X := X)) fun xs H Q h => ?_
 obtain ⟨O, ps, P, tr, hx, h, k⟩ := h
 unfold rAbs at h
 split at h
 ·obtain ⟨v, us, rfl, r, t⟩ := hx.inv
  cases t.inv0; cases r.int_
  exact ⟨_, rfl, k.int h⟩
 ·cases h
theorem Reps.two {K : PySem.W.Frag} {O H} {x y : PV} {vs : List V} (h : Reps K O H [x, y] vs) : ∃ v w, vs = [v, w] ∧ Rep K O H x v ∧ Rep K O H y w := by
 obtain ⟨v, us, rfl, r, t⟩ := h.inv
 obtain ⟨w, us, rfl, r', t⟩ := t.inv
 cases t.inv0
 exact ⟨v, w, rfl, r, r'⟩
theorem Reps.one {K : PySem.W.Frag} {O H} {x : PV} {vs : List V} (h : Reps K O H [x] vs) : ∃ v, vs = [v] ∧ Rep K O H x v := by
 obtain ⟨v, us, rfl, r, t⟩ := h.inv
 cases t.inv0
 exact ⟨v, rfl, r⟩
def rMax2 : R1p := fun ps P => match ps with
 | [.int i, .int j] => P (.int (if j > i then j else i))
 | _ => False
def rMin2 : R1p := fun ps P => match ps with
 | [.int i, .int j] => P (.int (if j < i then j else i))
 | _ => False
theorem zc_max2 (hc : X.calm = true) : CallR X (.builtin "max") (r1 X.K rMax2) := by
 refine CallR.weak (call_max2 hc) fun xs H Q h => ?_
 obtain ⟨O, ps, P, tr, hx, h, k⟩ := h
 unfold rMax2 at h
 split at h
 ·obtain ⟨v, w, rfl, r, r'⟩ := hx.two
  cases r.int_; cases r'.int_
  exact ⟨_, _, rfl, k.int h⟩
 ·cases h
theorem zc_min2 (hc : X.calm = true) : CallR X (.builtin "min") (r1 X.K rMin2) := by
 refine CallR.weak (call_min2 hc) fun xs H Q h => ?_
 obtain ⟨O, ps, P, tr, hx, h, k⟩ := h
 unfold rMin2 at h
 split at h
 ·obtain ⟨v, w, rfl, r, r'⟩ := hx.two
  cases r.int_; cases r'.int_
  exact ⟨_, _, rfl, k.int h⟩
 ·cases h
def blsOf : List PV → Option (List Bool)
 | [] => some []
 | .bl b :: r => (blsOf r).map (b :: ·)
 | _ => none
theorem blsOf_rep {K : PySem.W.Frag} {O H} : ∀ {xs : List PV} {bs : List Bool} {vs : List V}, blsOf xs = some bs → Reps K O H xs vs → vs = bs.map V.bl
 | [], _, _, e, h => by unfold blsOf at e; cases e; exact h.inv0
 | x :: xs, _, _, e, h => by
  obtain ⟨v, us, rfl, r, t⟩ := h.inv
  cases x <;> unfold blsOf at e <;> try (cases e)
  cases q : blsOf xs with
  | none => rw [q] at e; cases e
  | some r' =>
   rw [q] at e; cases e
   rw [r.bl_, blsOf_rep q t]; rfl
def rAllP : R1p := fun ps P => match ps with
 | [.lst xs] => ∃ bs, blsOf xs = some bs ∧ P (.bl (bs.all id))
 | _ => False
theorem zc_all (hc : X.calm = true) : CallR X (.builtin "all") (r1 X.K rAllP) := by
 refine CallR.weak (cr_all hc) fun xs H Q h => ?_
 obtain ⟨O, ps, P, tr, hx, h, k⟩ := h
 unfold rAllP at h
 split at h
 ·obtain ⟨bs, e, h⟩ := h
  obtain ⟨v, rfl, r⟩ := hx.one
  obtain ⟨a, vs, rfl, n, q, rr⟩ := r.lst_
  have := blsOf_rep e rr
  subst this
  exact ⟨a, bs, rfl, SqL.of q, k.bl h⟩
 ·cases h
def rTuple : R1p := fun ps P => match ps with
 | [.lst xs] => P (.tup xs)
 | [.tup xs] => P (.tup xs)
 | _ => False
theorem zc_tuple : CallR X (.type "tuple") (r1 X.K rTuple) := by
 refine CallR.weak (call_tuple_of (X := X)) fun xs H Q h => ?_
 obtain ⟨O, ps, P, tr, hx, h, k⟩ := h
 unfold rTuple at h
 split at h
 ·rename_i xs
  obtain ⟨v, rfl, r⟩ := hx.one
  obtain ⟨a, vs, rfl, n, q, rr⟩ := r.lst_
  exact ⟨a, vs, rfl, .inl ⟨SqL.of q, fun l hl => k.newT h tr rr hl⟩⟩
 ·obtain ⟨v, rfl, r⟩ := hx.one
  obtain ⟨a, vs, rfl, q, rr⟩ := r.tup_
  exact ⟨a, vs, rfl, .inr ⟨q.sq, k _ _ _ h (Same.refl _) r⟩⟩
 ·cases h
def rStr : R1p := fun ps P => match ps with
 | [.int i] => i.natAbs.log2 < 1920 ∧ P (.str (toString i))
 | _ => False
theorem zc_str : CallR X (.type "str") (r1 X.K rStr) := by
 refine CallR.weak (call_str_int (X := X)) fun xs H Q h => ?_
 obtain ⟨O, ps, P, tr, hx, h, k⟩ := h
 unfold rStr at h
 split at h
 ·obtain ⟨v, rfl, r⟩ := hx.one
  cases r.int_
  exact ⟨_, rfl, h.1, k.str h.2⟩
 ·cases h
def tyN : PV → Option String
 | .non => some "NoneType"
 | .bl _ => some "bool"
 | .int _ => some "int"
 | .str _ => some "str"
 | .tup _ => some "tuple"
 | .lst _ => some "list"
 | .scr _ => some "list"
 | .dic _ => some "dict"
 | .ins _ _ => none
 | .raw _ => none
 | .pln _ => none
 | .exn _ _ _ => none
structure ClsT (K : PySem.W.Frag) (C : Addr) : Prop where
 cl : Cls K C
 ha : PySem.W.findIn K (.ref C) "__class__" = some (some (.builtin "object.__class__"))
 hn : PySem.W.specialIn K (.builtin "object.__class__") "__get__" = some (some (.builtin "getset_descriptor.__get__"))
 htk : PySem.W.takesIn K (.builtin "object.__class__") = some true
 hm : PySem.W.mroIn K C (.type "object") = some true
 own : PySem.W.kitOne K (.ref C) (.ref C) = some true
 ty : ∀ n : String, n ∈ ["int", "bool", "str", "tuple", "list", "dict"] → PySem.W.kitOne K (.ref C) (.type n) = some false
 no : ∀ n : String, n ∈ ["NoneType", "int", "bool", "str", "tuple", "list", "dict"] → PySem.W.kitOne K (.type n) (.ref C) = some false
def rIsI (K : PySem.W.Frag) : R1p := fun ps P => match ps with
 | [x, .raw (.ty n)] => (match tyN x with
  | some t => ∃ b, kitB t n = some b ∧ P (.bl b)
  | none => match x with
   | .ins C _ => ClsT K C ∧ n ∈ ["int", "bool", "str", "tuple", "list", "dict"] ∧ P (.bl false)
   | _ => False)
 | [x, .raw (.ref C)] => (match tyN x with
  | some t => ClsT K C ∧ t ∈ ["NoneType", "int", "bool", "str", "tuple", "list", "dict"] ∧ P (.bl false)
  | none => match x with
   | .ins C' _ => C' = C ∧ ClsT K C ∧ P (.bl true)
   | _ => False)
 | _ => False
theorem tyN_rep {K : PySem.W.Frag} {O H} {x : PV} {v : V} {t : String} (h : Rep K O H x v) (e : tyN x = some t) : TyX K H v (.type t) := by
 cases x <;> unfold tyN at e <;> cases e
 ·rw [h.non_]; exact .base .non
 ·rw [h.bl_]; exact .base (.bl _)
 ·rw [h.int_]; exact .base (.int _)
 ·rw [h.str_]; exact .base (.str _)
 ·obtain ⟨a, vs, rfl, q, rr⟩ := h.tup_
  rcases q with ⟨_, q | ⟨o, q⟩⟩ | ⟨o, its, n, q1, q2, _⟩
  ·exact .base (.tup q)
  ·exact .fTuple q
  ·exact .kTuple q1 q2
 ·obtain ⟨a, vs, rfl, n, q, rr⟩ := h.lst_; exact .base (.lst q)
 ·obtain ⟨a, o, rfl, n, q⟩ := h.scr_; exact .base (.frz q)
 ·unfold Rep at h; obtain ⟨a, ws, rfl, n, q, _⟩ := h; exact .base (.dK q)
theorem zc_isi : CallR X (.builtin "isinstance") (r1 X.K (rIsI X.K)) := by
 refine CallR.weak (call_isi (X := X)) fun xs H Q h => ?_
 obtain ⟨O, ps, P, tr, hx, h, k⟩ := h
 unfold rIsI at h
 split at h
 ·obtain ⟨v, w, rfl, r, r'⟩ := hx.two
  cases r'.raw_
  split at h
  ·rename_i t et
   obtain ⟨b, hb, h⟩ := h
   exact ⟨_, _, _, _, b, rfl, .ty _, tyN_rep r et, kit_ty hb, k.bl h⟩
  ·split at h
   ·obtain ⟨a, dx, ws, rfl, n, q, rr⟩ := r.ins_
    obtain ⟨T, hn, h⟩ := h
    exact ⟨_, _, _, _, false, rfl, .ty _, .base (.ins q T.cl T.ha T.hn T.htk T.hm), T.ty _ hn, k.bl h⟩
   ·cases h
 ·obtain ⟨v, w, rfl, r, r'⟩ := hx.two
  cases r'.raw_
  split at h
  ·rename_i t et
   obtain ⟨T, hn, h⟩ := h
   exact ⟨_, _, _, _, false, rfl, .own _, tyN_rep r et, T.no _ hn, k.bl h⟩
  ·split at h
   ·obtain ⟨rfl, T, h⟩ := h
    obtain ⟨a, dx, ws, rfl, n, q, rr⟩ := r.ins_
    exact ⟨_, _, _, _, true, rfl, .own _, .base (.ins q T.cl T.ha T.hn T.htk T.hm), T.own, k.bl h⟩
   ·cases h
 ·cases h
theorem call_reprD (hg : X.A.guards = some []) (hu : X.A.units + 64 < cLine) : CallR X (.builtin "repr") (fun xs H Q => ∃ v d, xs = [v] ∧ Dp X.K H v d ∧ d.showable = true ∧ d.hasDict = false ∧ d.depth ≤ 60 ∧ d.shown.length ≤ sizeLine ∧ Q (.str d.shown) H) := by
 intro pins s σ H xs us Q I r h
 obtain ⟨v, d, rfl, hd, hs, hn, hdep, hz, q⟩ := h
 obtain ⟨u, rfl, ru⟩ := vals1 r
 obtain ⟨as, rd⟩ := Dp.reads I d v u hd ru
 have fin : ∀ h' tk tk', (∀ b o, s.heap.get? b = some o → h'.get? b = some o) → EP X pins σ Q (.str d.shown tk) { s with heap := h', toks := tk' } := fun h' tk tk' k => ⟨.str d.shown, H, I.kept k, ⟨_, rfl⟩, q⟩
 cases rd with
 | none => exact PySem.P.repr_of_none (fin s.heap _ _ fun _ _ e => e)
 | bool b => exact PySem.P.repr_of_bool (fin s.heap _ _ fun _ _ e => e)
 | int i t => exact PySem.P.repr_of_int (of_decide_eq_true hs) (fin s.heap _ _ fun _ _ e => e)
 | str x t => exact PySem.P.repr_of_str (fin s.heap _ _ fun _ _ e => e) hz
 | list h1 h2 h3 h4 => exact repr_of_reads' (Reads.list h1 h2 h3 h4) hs (PyData.noDict_hsm hn) hg (by omega) (fun _ _ e => e) (fun h' u tk k => fin h' _ _ k) hz
 | tuple h1 h2 h3 h4 => exact repr_of_reads' (Reads.tuple h1 h2 h3 h4) hs (PyData.noDict_hsm hn) hg (by omega) (fun _ _ e => e) (fun h' u tk k => fin h' _ _ k) hz
 | dict h1 h2 h3 h4 h5 => cases hd
def rRepr : R1p := fun ps P => match ps with
 | [x] => ∃ d, toD x = some d ∧ d.showable = true ∧ d.hasDict = false ∧ d.depth ≤ 60 ∧ d.shown.length ≤ sizeLine ∧ P (.str d.shown)
 | _ => False
theorem zc_repr (hg : X.A.guards = some []) (hu : X.A.units + 64 < cLine) : CallR X (.builtin "repr") (r1 X.K rRepr) := by
 refine CallR.weak (call_reprD hg hu) fun xs H Q h => ?_
 obtain ⟨O, ps, P, tr, hx, h, k⟩ := h
 unfold rRepr at h
 split at h
 ·obtain ⟨d, h1, h2, h3, h4, h5, h⟩ := h
  obtain ⟨v, rfl, r⟩ := hx.one
  exact ⟨v, d, rfl, Rep.dp _ _ _ r h1, h2, h3, h4, h5, k.str h⟩
 ·cases h
def encD (x : PV) : PyData := (toD x).getD .none
theorem toDs_map : ∀ {xs : List PV} {ds : List PyData}, toDs xs = some ds → ds = xs.map encD
 | [], _, e => by unfold toDs at e; cases e; rfl
 | x :: xs, _, e => by
  obtain ⟨d, r, rfl, h1, h2⟩ := toDs_cons e
  rw [List.map_cons, ← toDs_map h2]
  unfold encD; rw [h1]; rfl
def ValR (K : PySem.W.Frag) (O : Addr → Prop) (H : Hp) (u : Value) (x : PV) : Prop := ∃ v, RelV v u ∧ Rep K O H x v
theorem each_val {K : PySem.W.Frag} {O H} : ∀ {xs : List PV} {vs : List V} {us : List Value}, Reps K O H xs vs → Vals vs us → PySem.W.EachIs (ValR K O H) us xs
 | [], _, _, h, r => by cases h.inv0; cases r; exact .nil
 | x :: xs, _, _, h, r => by
  obtain ⟨v, us, rfl, r1, t⟩ := h.inv
  cases r with
  | cons r2 t2 => exact .cons ⟨v, r2, r1⟩ (each_val t t2)
theorem val_each {K : PySem.W.Frag} {O H} : ∀ {xs : List PV} {us : List Value}, PySem.W.EachIs (ValR K O H) us xs → ∃ vs, Reps K O H xs vs ∧ Vals vs us
 | _, _, .nil => ⟨[], .nil, .nil⟩
 | _, _, .cons ⟨v, h1, h2⟩ t => by
  obtain ⟨vs, q1, q2⟩ := val_each t
  exact ⟨v :: vs, .cons h2 q1, .cons h1 q2⟩
theorem each_reads {K : PySem.W.Frag} {O H} {pins s σ} (I : Inv X pins σ H s) (hK : K = X.K) : ∀ {xs : List PV} {vs : List V} {us : List Value} {ds : List PyData}, Reps K O H xs vs → Vals vs us → toDs xs = some ds → PySem.W.EachIs (fun u x => ∃ as, Reads s.heap u (encD x) as) us xs
 | [], _, _, _, h, r, e => by cases h.inv0; cases r; exact .nil
 | x :: xs, _, _, _, h, r, e => by
  subst hK
  obtain ⟨v, us, rfl, r1, t⟩ := h.inv
  obtain ⟨d, ds, rfl, h1, h2⟩ := toDs_cons e
  cases r with
  | cons r2 t2 =>
   refine .cons ?_ (each_reads I rfl t t2 h2)
   have e' : encD x = d := by unfold encD; rw [h1]; rfl
   rw [e']
   exact Dp.reads I d v _ (Rep.dp _ _ _ r1 h1) r2
def rSortD : R1p := fun ps P => match ps with
 | [.lst xs] => ∃ ds, toDs xs = some ds ∧ PySem.W.AllAlike ds ∧ PySem.W.Sortable ds ∧ (∀ x ∈ xs, (encD x).depth ≤ 50) ∧ xs.length ≤ sizeLine ∧ P (.lst (xs.mergeSort (PySem.W.dataLe false encD)))
 | [.tup xs] => False
 | _ => False
theorem zc_sorted (hu : X.A.units + 64 < cLine) : CallR X (.builtin "sorted") (r1 X.K rSortD) := by
 intro pins s σ H vs us Q I r h
 obtain ⟨O, ps, P, tr, hx, h, k⟩ := h
 unfold rSortD at h
 split at h
 ·rename_i xs
  obtain ⟨ds, e, hal, hso, hdp, hz, h⟩ := h
  obtain ⟨v, rfl, rv⟩ := hx.one
  obtain ⟨a, ws, rfl, na, q, rr⟩ := rv.lst_
  obtain ⟨u, rfl, ru⟩ := vals1 r
  cases ru
  obtain ⟨its, rits, hl, hzz⟩ := I.list (SqL.of q)
  have em := toDs_map e
  rw [em] at hal hso
  refine PySem.W.sorted_data (R := ValR X.K O H) (enc := encD) hl.isList (each_val rr rits) (each_reads I rfl rr rits e) hal hso hz (fun b hb => by have := hdp b hb; omega) fun out ho eo => ?_
  obtain ⟨ys, r3, r4⟩ := val_each eo
  obtain ⟨c, hc⟩ := sortedAll_at s.heap its out.toArray
  have fr : H (s.heap.objs.size + 1) = none := I.hok.fresh (Nat.le_succ _)
  refine ⟨.ref (s.heap.objs.size + 1), upd H (s.heap.objs.size + 1) (.lst ys), I.laid (t' := s.toks) (fun b o e => sortedAll_old e) (Nat.le_succ _) ⟨?_, out, c, r4, hc⟩, rfl, k.newL h tr r3 fr⟩
  rw [r3.len, List.length_mergeSort]; exact hz
 ·cases h
 ·cases h
end
structure Gr (H H' : Hp) : Prop where
 keep : ∀ b o, H b = some o → (∀ ps, o ≠ .tbl ps) → H' b = some o
 live : ∀ b, ¬ Nw H b → ¬ Nw H' b
section
variable {K : PySem.W.Frag} {T : List (Addr × Str)} {F O : Addr → Prop} {σ σ' : St} {η η' : EP'} {H H' : Hp} {i : Nat} {x : PV} {v : V} {a : Addr} {o : Ow}
theorem Gr.car (g : Gr H H') : Car O O H H' := fun a o n e t => ⟨g.keep a o e t, n⟩
theorem Gr.ext (g : Gr H H') : Ext σ η σ η H H' := ⟨fun b o e _ t => g.keep b o e t, g.live, fun _ z => .inl z, fun o e => ⟨o, e, rfl⟩⟩
theorem Gr.same (s : Same H H') : Gr H H' := ⟨fun b o e _ => s b o e, (Ext.same (σ := []) (η := []) s).live⟩
theorem Rs.gr (R : Rs K T F σ η H) (g : Gr H H') (tb : LamX.Tabs T H') : Rs K T F σ η H' := by
 have c : Car (Oof F σ η) (Oof F σ η) H H' := g.car
 refine ⟨R.len, fun i x e => ?_, fun i o e => ?_, R.nd, fun a h => g.live a (R.tr a h), tb⟩
 ·obtain ⟨v, h1, h2⟩ := R.va i x e
  exact ⟨v, h1, h2.car c⟩
 ·obtain ⟨a, h1, h2, h3⟩ := R.ow i o e
  refine ⟨a, h1, h2.car c ?_, h3⟩
  cases o with
  | l xs => obtain ⟨vs, q, _⟩ := h2; rw [q]; exact g.keep _ _ q nofun
  | o C fs => obtain ⟨dx, ws, q, _⟩ := h2; rw [q]; exact g.keep _ _ q nofun
  | d kvs => obtain ⟨ws, q, _⟩ := h2; rw [q]; exact g.keep _ _ q nofun
theorem own_put {b : Addr} {o' : Ow} (e : η[i]? = some (Sl.ow o)) : IsOwn σ (η.set i (.ow o')) b ↔ IsOwn σ η b := by
 have hi : i < η.length := (List.getElem?_eq_some_iff.mp e).1
 constructor
 ·rintro ⟨j, p, h1, h2⟩
  by_cases q : j = i
  ·subst q; exact ⟨j, o, h1, e⟩
  ·rw [ne_set q] at h2; exact ⟨j, p, h1, h2⟩
 ·rintro ⟨j, p, h1, h2⟩
  by_cases q : j = i
  ·subst q; exact ⟨j, o', h1, by rw [List.getElem?_set_self hi]⟩
  ·exact ⟨j, p, h1, by rw [ne_set q]; exact h2⟩
theorem Rs.put {o' : Ow} (R : Rs K T F σ η H) (e : η[i]? = some (Sl.ow o)) (s : σ[i]? = some (some (V.ref a))) (c : Car (Oof F σ η) (Oof F σ η) H H') (oth : ∀ b, b ≠ a → IsOwn σ η b → H' b = H b) (tr : Trk F H') (tb : LamX.Tabs T H')
  (h : OwAt K (Oof F σ η) H' a o') : Rs K T F σ (η.set i (.ow o')) H' := by
 have hi : i < η.length := (List.getElem?_eq_some_iff.mp e).1
 have m : ∀ b, Oof F σ (η.set i (.ow o')) b → Oof F σ η b := Oof_mono fun b z => (own_put e).mp z
 refine ⟨by simpa using R.len, fun j y q => ?_, fun j p q => ?_, fun j k p p' b e1 e2 e3 e4 => ?_, tr, tb⟩
 ·have hj : j ≠ i := fun z => by subst z; cases at_set q
  rw [ne_set hj] at q
  obtain ⟨w, h1, h2⟩ := R.va j y q
  exact ⟨w, h1, (h2.car c).mono m⟩
 ·by_cases hj : j = i
  ·subst hj
   cases at_set q
   obtain ⟨b, h1, h2, h3⟩ := R.ow j o e
   rw [s] at h1; cases h1
   exact ⟨a, s, h.mono m, h3⟩
  ·rw [ne_set hj] at q
   obtain ⟨b, h1, h2, h3⟩ := R.ow j p q
   refine ⟨b, h1, (h2.car c (oth b ?_ ⟨j, p, h1, q⟩)).mono m, h3⟩
   rintro rfl
   exact hj (R.nd j i p o b q e h1 s)
 ·have f : ∀ {j p}, (η.set i (.ow o'))[j]? = some (Sl.ow p) → ∃ p', η[j]? = some (Sl.ow p') := fun {j p} q => by
   by_cases hj : j = i
   ·rw [hj]; exact ⟨o, e⟩
   ·rw [ne_set hj] at q; exact ⟨p, q⟩
  obtain ⟨q1, f1⟩ := f e1
  obtain ⟨q2, f2⟩ := f e2
  exact R.nd j k q1 q2 b f1 f2 e3 e4
theorem Tabs.upd {a : Addr} {u w : HO} (t : LamX.Tabs T H) (h : H a = some w) (n1 : ∀ ps, w ≠ .tbl ps) (n2 : ∀ φ, w ≠ .ext φ) : LamX.Tabs T (upd H a u) := fun p hp => by
 obtain ⟨ps, h1, h2, h3⟩ := t p hp
 refine ⟨ps, by rw [upd_ne (fun z => n1 ps (by rw [z] at h1; exact Option.some.inj (h.symm.trans h1)))]; exact h1, h2, fun pos cv hc => ?_⟩
 obtain ⟨c, e1, e2⟩ := h3 pos cv hc
 refine ⟨c, e1, ?_⟩
 rw [upd_ne (fun z => by rw [z] at e2; exact n2 _ (Option.some.inj (h.symm.trans e2)))]
 exact e2
theorem Rs.write {o' : Ow} {u w : HO} (R : Rs K T F σ η H) (e : η[i]? = some (Sl.ow o)) (s : σ[i]? = some (some (V.ref a))) (hw : H a = some w) (n1 : ∀ ps, w ≠ .tbl ps) (n2 : ∀ φ, w ≠ .ext φ) (n3 : ∀ ps, u ≠ .tbl ps)
  (h : Car (Oof F σ η) (Oof F σ η) H (upd H a u) → OwAt K (Oof F σ η) (upd H a u) a o') : Rs K T F σ (η.set i (.ow o')) (upd H a u) ∧ Ext σ η σ (η.set i (.ow o')) H (upd H a u) := by
 have own : IsOwn σ η a := ⟨i, o, s, e⟩
 have c : Car (Oof F σ η) (Oof F σ η) H (upd H a u) := fun b q n hb _ => ⟨by rw [upd_ne (fun z => n (by rw [z]; exact .inr own))]; exact hb, n⟩
 refine ⟨R.put e s c (fun b n _ => upd_ne n) (fun b hb => ?_) (Tabs.upd R.tb hw n1 n2) (h c), fun b q hb n _ => ?_, fun b hb => ?_, fun b z => .inl ((own_put e).mp z), fun p q => ?_⟩
 ·exact live_upd n3 (R.tr b hb)
 ·rw [upd_ne (fun z => n (by rw [z]; exact own))]; exact hb
 ·exact live_upd n3 hb
 ·by_cases z : (0 : Nat) = i
  ·rw [z]; exact ⟨o, e, rfl⟩
  ·rw [ne_set z] at q; exact ⟨p, q, rfl⟩
end
section
variable {X : Cx} {T : List (Addr × Str)} {e o : Expr} {es : List Expr} {te ta tb : TEp} {t : TAp} {pos : Pos} {st : Stmt} {rest : List Stmt} {t1 t2 : TSp}
def tSeqP (t u : TSp) : TSp := fun D η => t { D with nx := fun η' => u D η' } η
theorem zs_cons (h1 : PS X st (upS X.K T t1)) (h2 : PSs X rest (upS X.K T t2)) : PSs X (st :: rest) (upS X.K T (tSeqP t1 t2)) := by
 refine PSs.weak (pss_cons h1 h2) fun D σ H q => ?_
 obtain ⟨F, η, D', R, h, k1, k2, k3, k4⟩ := q
 refine ⟨F, η, _, R, h, fun η' σ' H' q e1 R1 => ?_, k2, k3, k4⟩
 exact ⟨F, η', D', R1, q, fun η'' σ'' H'' q' e2 R2 => k1 _ _ _ q' (e1.trans e2) R2, fun η'' σ'' H'' q' e2 R2 => k2 _ _ _ q' (e1.trans e2) R2, fun η'' σ'' H'' q' e2 R2 => k3 _ _ _ q' (e1.trans e2) R2, fun x η'' σ'' v H'' q' e2 R2 r => k4 _ _ _ _ _ q' (e1.trans e2) R2 r⟩
theorem zs_one (h1 : PS X st (upS X.K T t1)) : PSs X [st] (upS X.K T t1) := pss_one h1
def tNextP : TSp := fun D η => D.nx η
theorem zs_nil : PSs X [] (upS X.K T tNextP) := by
 refine PSs.weak pss_nil fun D σ H q => ?_
 obtain ⟨F, η, D', R, h, k1, k2, k3, k4⟩ := q
 exact k1 _ _ _ h .refl R
def tNevP : TSp := fun _ _ => False
theorem z_never : PS X st (upS X.K T tNevP) := PS.weak ps_never fun D σ H q => by
 obtain ⟨F, η, D', R, h, _⟩ := q
 exact h
def tDropP (te : TEp) : TSp := fun D η => te η fun _ η1 => D.nx η1
def tRetP (te : TEp) : TSp := fun D η => te η D.rt
theorem z_ret (he : PE X e (up X.K T te)) : PS X (.Return (some e) pos) (upS X.K T (tRetP te)) := by
 refine PS.weak (ps_ret he) fun D σ H q => ?_
 obtain ⟨F, η, D', R, h, k1, k2, k3, k4⟩ := q
 exact ⟨F, η, _, R, h, fun x η1 v H1 h1 e1 R1 r => k4 _ _ _ _ _ h1 e1 R1 r⟩
def tRetNP : TSp := fun D η => D.rt .non η
def tIfSP (c : TTp) (t u : TSp) : TSp := fun D η => c η fun b η1 => if b = true then t D η1 else u D η1
theorem z_if {c : Expr} {a b : List Stmt} {tc : TTp} (hc : PT X c (upB X.K T tc)) (ha : PSs X a (upS X.K T t1)) (hb : PSs X b (upS X.K T t2)) : PS X (.If c a b pos) (upS X.K T (tIfSP tc t1 t2)) := by
 refine PS.weak (ps_if hc ha hb) fun D σ H q => ?_
 obtain ⟨F, η, D', R, h, k1, k2, k3, k4⟩ := q
 refine ⟨F, η, _, R, h, fun x η1 H1 h1 e1 R1 => ?_⟩
 cases x with
 | true =>
  simp only [if_true] at h1 ⊢
  exact ⟨F, η1, D', R1, h1, fun η'' σ'' H'' q' e2 R2 => k1 _ _ _ q' (e1.trans e2) R2, fun η'' σ'' H'' q' e2 R2 => k2 _ _ _ q' (e1.trans e2) R2, fun η'' σ'' H'' q' e2 R2 => k3 _ _ _ q' (e1.trans e2) R2, fun x η'' σ'' v H'' q' e2 R2 r => k4 _ _ _ _ _ q' (e1.trans e2) R2 r⟩
 | false =>
  simp only [Bool.false_eq_true, if_false] at h1 ⊢
  exact ⟨F, η1, D', R1, h1, fun η'' σ'' H'' q' e2 R2 => k1 _ _ _ q' (e1.trans e2) R2, fun η'' σ'' H'' q' e2 R2 => k2 _ _ _ q' (e1.trans e2) R2, fun η'' σ'' H'' q' e2 R2 => k3 _ _ _ q' (e1.trans e2) R2, fun x η'' σ'' v H'' q' e2 R2 r => k4 _ _ _ _ _ q' (e1.trans e2) R2 r⟩
def tSetP (i : Nat) (te : TEp) : TSp := fun D η => te η fun x η1 => D.nx (η1.set i (.va x))
theorem z_set {i : Nat} {x : Str} {pos' : Pos} (hN : X.N.Nodup) (hi : X.N[i]? = some x) (hx : Loc X.env.scope x) (he : PE X e (up X.K T te)) (hs : swapsWith e (some (.Name x pos')) pos.line X.env = pure false := by rfl) (hf : X.fn x = true ∨ X.env.scope.names.lookup x = some .local := by first | exact .inl rfl | exact .inr rfl | assumption) :
  PS X (.Assign [.Name x pos'] e pos) (upS X.K T (tSetP i te)) := by
 refine PS.weak (ps_set hN hi hx he hs hf) fun D σ H q => ?_
 obtain ⟨F, η, D', R, h, k1, k2, k3, k4⟩ := q
 exact ⟨F, η, _, R, h, fun x η1 v H1 h1 e1 R1 r => k1 _ _ _ h1 (e1.trans .setv) (R1.setv r)⟩
abbrev TGp := PV → EP' → (EP' → Prop) → Prop
abbrev TGsp := List PV → EP' → (EP' → Prop) → Prop
def upG (K : PySem.W.Frag) (T : List (Addr × Str)) (g : TGp) : TG := fun v σ H Q => ∃ F η x P, Rs K T F σ η H ∧ Rep K (Oof F σ η) H x v ∧ g x η P ∧ ∀ η' σ' H', P η' → Ext σ η σ' η' H H' → Rs K T F σ' η' H' → Q σ' H'
def upGs (K : PySem.W.Frag) (T : List (Addr × Str)) (g : TGsp) : TGs := fun vs σ H Q => ∃ F η xs P, Rs K T F σ η H ∧ Reps K (Oof F σ η) H xs vs ∧ g xs η P ∧ ∀ η' σ' H', P η' → Ext σ η σ' η' H H' → Rs K T F σ' η' H' → Q σ' H'
theorem PG.weak {tg : Expr} {t t' : TG} (h : PG X tg t) (w : ∀ v σ H Q, t' v σ H Q → t v σ H Q) : PG X tg t' := by
 obtain ⟨r⟩ := h
 exact ⟨fun pins s σ H v u Q I rv q => r pins s σ H v u Q I rv (w _ _ _ _ q)⟩
theorem PGs.weak {tg : List Expr} {t t' : TGs} (h : PGs X tg t) (w : ∀ v σ H Q, t' v σ H Q → t v σ H Q) : PGs X tg t' := by
 obtain ⟨r⟩ := h
 exact ⟨fun pins s σ H v u Q I rv q => r pins s σ H v u Q I rv (w _ _ _ _ q)⟩
def gNameP (i : Nat) : TGp := fun x η P => P (η.set i (.va x))
theorem zg_name {i : Nat} {x : Str} (hN : X.N.Nodup) (hi : X.N[i]? = some x) (hx : Loc X.env.scope x) (hf : X.fn x = true ∨ X.env.scope.names.lookup x = some .local := by first | exact .inl rfl | exact .inr rfl | assumption) : PG X (.Name x pos) (upG X.K T (gNameP i)) := by
 refine PG.weak (pg_name hN hi hx hf) fun v σ H Q q => ?_
 obtain ⟨F, η, x, P, R, r, h, k⟩ := q
 exact k _ _ _ h .setv (R.setv r)
def gNilP : TGsp := fun xs η P => xs = [] ∧ P η
def gConsP (t : TGp) (u : TGsp) : TGsp := fun xs η P => match xs with
 | x :: r => t x η fun η1 => u r η1 P
 | [] => False
theorem zgs_nil : PGs X [] (upGs X.K T gNilP) := by
 refine PGs.weak pgs_nil fun v σ H Q q => ?_
 obtain ⟨F, η, x, P, R, r, h, k⟩ := q
 rw [h.1] at r
 exact ⟨r.inv0, k _ _ _ h.2 .refl R⟩
theorem zgs_cons {t : TGp} {u : TGsp} (h1 : PG X e (upG X.K T t)) (h2 : PGs X es (upGs X.K T u)) (pf : PGs X (e :: es) (gCons (upG X.K T t) (upGs X.K T u))) : PGs X (e :: es) (upGs X.K T (gConsP t u)) := by
 refine PGs.weak pf fun v σ H Q q => ?_
 obtain ⟨F, η, x, P, R, r, h, k⟩ := q
 unfold gConsP at h
 split at h
 ·obtain ⟨v, us, rfl, r1, r2⟩ := r.inv
  refine ⟨v, us, rfl, F, η, _, _, R, r1, h, fun η' σ' H' h' e1 R1 => ⟨F, η', _, P, R1, r2.car e1.car, h', fun η'' σ'' H'' h'' e2 R2 => k _ _ _ h'' (e1.trans e2) R2⟩⟩
 ·cases h
def gTupP (n : Nat) (t : TGsp) : TGp := fun x η P => match x with
 | .tup xs => xs.length = n ∧ t xs η P
 | _ => False
theorem zg_tup {k n : Nat} {t : TGsp} (pf : PG X (.Tuple es k pos) (gTup X.K n (upGs X.K T t))) : PG X (.Tuple es k pos) (upG X.K T (gTupP n t)) := by
 refine PG.weak pf fun v σ H Q q => ?_
 obtain ⟨F, η, x, P, R, r, h, k⟩ := q
 unfold gTupP at h
 split at h
 ·obtain ⟨a, vs, rfl, t, r⟩ := r.tup_
  exact ⟨a, vs, rfl, t.sq, by rw [r.len]; exact h.1, F, η, _, P, R, r, h.2, k⟩
 ·cases h
def tAsgP (te : TEp) (g : TGp) : TSp := fun D η => te η fun x η1 => g x η1 D.nx
theorem z_asg {tg : Expr} {g : TGp} (he : PE X e (up X.K T te)) (hg : PG X tg (upG X.K T g)) (hs : swapsWithSole [tg] e pos.line X.env = pure false := by rfl) (hw : swappedStores [tg] e X.env = pure none := by rfl) (h1 : (assignEach [tg] X.env).map (·.2) = [assign tg X.env] := by rfl) : PS X (.Assign [tg] e pos) (upS X.K T (tAsgP te g)) := by
 refine PS.weak (ps_asg he hg hs hw h1) fun D σ H q => ?_
 obtain ⟨F, η, D', R, h, k1, k2, k3, k4⟩ := q
 exact ⟨F, η, _, R, h, fun x η1 v H1 h1 e1 R1 r => ⟨F, η1, x, _, R1, r, h1, fun η' σ' H' h' e2 R2 => k1 _ _ _ h' (e1.trans e2) R2⟩⟩
def gSubP (i : Nat) (ti : TEp) : TGp := fun x η P => (∃ o, η[i]? = some (Sl.ow o)) ∧ ti η fun k η1 => match η1[i]? with
 | some (.ow (.l xs)) => ∃ kk j, k = .int kk ∧ ixN xs.length kk = some j ∧ P (η1.set i (.ow (.l (xs.set j x))))
 | _ => False
theorem zg_sub {i : Nat} {ix : Expr} {ti : TEp} (ho : PE X o (tVar i)) (hi : PE X ix (up X.K T ti)) (pf : PG X (.Subscript o ix pos) (gSub (tVar i) (up X.K T ti) rSetL)) : PG X (.Subscript o ix pos) (upG X.K T (gSubP i ti)) := by
 refine PG.weak pf fun v σ H Q q => ?_
 obtain ⟨F, η, x, P, R, r, ⟨⟨oo, ho⟩, h⟩, k⟩ := q
 obtain ⟨b, hw, _, _⟩ := R.ow i _ ho
 refine ⟨_, hw, F, η, _, R, h, fun y η1 u H1 h1 e1 R1 r1 => ?_⟩
 split at h1
 ·rename_i xs e
  obtain ⟨kk, j, rfl, hj, h1⟩ := h1
  obtain ⟨a, s, ⟨vs, q1, q2⟩, nf⟩ := R1.ow i _ e
  rw [hw] at s; cases s
  refine ⟨b, vs, kk, j, rfl, r1.int_, q1, by rw [q2.len]; exact hj, ?_⟩
  have rr := r.car e1.car
  obtain ⟨W, E⟩ := R1.write (o' := .l (xs.set j x)) (u := .lst (vs.set j v)) e hw q1 nofun nofun nofun fun c => ⟨_, upd_same, (q2.set j rr).car c⟩
  exact k _ _ _ h1 (e1.trans E) W
 ·cases h1
end
section
variable {K : PySem.W.Frag} {T : List (Addr × Str)} {F : Addr → Prop} {σ : St} {η : EP'} {H H' : Hp} {i : Nat} {x : PV} {v : V} {a : Addr} {o : Ow}
def With (F : Addr → Prop) (a : Addr) : Addr → Prop := fun b => F b ∨ b = a
abbrev TFp := EP' → (List PV → EP' → Prop) → Prop
def upF (K : PySem.W.Frag) (T : List (Addr × Str)) (tp : TFp) : TE := fun σ H Q => ∃ F η P, Rs K T F σ η H ∧ tp η P ∧ ∀ xs η' a vs H', P xs η' → Ext σ η σ η' H H' → Rs K T (With F a) σ η' H' → Nw H a → ¬ F a → H' a = some (.lst vs) → Reps K (Oof (With F a) σ η') H' xs vs → Q (.ref a) H'
theorem Rs.shrink {F' : Addr → Prop} (R : Rs K T F σ η H) (h : ∀ b, F' b → F b) : Rs K T F' σ η H := by
 have m : ∀ b, Oof F' σ η b → Oof F σ η b := fun b z => z.elim (fun z => .inl (h b z)) .inr
 refine ⟨R.len, fun i x e => ?_, fun i o e => ?_, R.nd, fun a z => R.tr a (h a z), R.tb⟩
 ·obtain ⟨v, h1, h2⟩ := R.va i x e
  exact ⟨v, h1, h2.mono m⟩
 ·obtain ⟨a, h1, h2, h3⟩ := R.ow i o e
  exact ⟨a, h1, h2.mono m, fun z => h3 (h a z)⟩
theorem Rs.add {p : Addr} {o : HO} (R : Rs K T F σ η H) (hp : H p = none) (nt : ∀ ps, o ≠ .tbl ps) : Rs K T (With F p) σ η (upd H p o) := by
 have c : Car (Oof F σ η) (Oof (With F p) σ η) H (upd H p o) := fun b q n hb _ => ⟨(Same.new hp) b q hb, fun z => by
  rcases z with (z | z) | z
  ·exact n (.inl z)
  ·rw [z, hp] at hb; cases hb
  ·exact n (.inr z)⟩
 refine ⟨R.len, fun i x e => ?_, fun i o e => ?_, R.nd, fun a z => ?_, R.tb.ext (Same.new hp)⟩
 ·obtain ⟨v, h1, h2⟩ := R.va i x e
  exact ⟨v, h1, h2.car c⟩
 ·obtain ⟨a, h1, h2, h3⟩ := R.ow i o e
  have na : a ≠ p := fun z => R.trO a (.inr ⟨i, o, h1, e⟩) (Nw.of (by rw [z]; exact hp))
  refine ⟨a, h1, h2.car c (upd_ne na), fun z => z.elim h3 na⟩
 ·rcases z with z | z
  ·exact R.tr.same (Same.new hp) a z
  ·rw [z]; exact nw_same nt
theorem car_add {p : Addr} {o : HO} (hp : H p = none) : Car (Oof F σ η) (Oof (With F p) σ η) H (upd H p o) := fun b q n hb _ => ⟨(Same.new hp) b q hb, fun z => by
  rcases z with (z | z) | z
  ·exact n (.inl z)
  ·rw [z, hp] at hb; cases hb
  ·exact n (.inr z)⟩
theorem Rs.seto (R : Rs K T (With F a) σ η H) (nf : ¬ F a) (h : OwAt K (Oof (With F a) σ η) H a o) (hi : i < η.length) : Rs K T F (σ.set i (some (.ref a))) (η.set i (.ow o)) H := by
 have m : ∀ b, Oof F (σ.set i (some (.ref a))) (η.set i (.ow o)) b → Oof (With F a) σ η b := by
  rintro b (z | ⟨j, p, h1, h2⟩)
  ·exact .inl (.inl z)
  ·by_cases hj : j = i
   ·subst hj
    cases at_set h1
    exact .inl (.inr rfl)
   ·rw [ne_set hj] at h1 h2
    exact .inr ⟨j, p, h1, h2⟩
 have hs : i < σ.length := by rw [R.len]; exact hi
 refine ⟨by simpa using R.len, fun j y e => ?_, fun j p e => ?_, fun j k p p' b e1 e2 e3 e4 => ?_, fun b z => R.tr b (.inl z), R.tb⟩
 ·have hj : j ≠ i := fun z => by subst z; cases at_set e
  rw [ne_set hj] at e ⊢
  obtain ⟨w, h1, h2⟩ := R.va j y e
  exact ⟨w, h1, h2.mono m⟩
 ·by_cases hj : j = i
  ·subst hj
   cases at_set e
   exact ⟨a, by rw [List.getElem?_set_self hs], h.mono m, nf⟩
  ·rw [ne_set hj] at e ⊢
   obtain ⟨b, h1, h2, h3⟩ := R.ow j p e
   exact ⟨b, h1, h2.mono m, fun z => h3 (.inl z)⟩
 ·by_cases hj : j = i
  ·by_cases hk : k = i
   ·exact hj.trans hk.symm
   ·exfalso
    subst hj
    cases at_set e3
    rw [ne_set hk] at e2 e4
    obtain ⟨b, h1, h2, h3⟩ := R.ow k _ e2
    rw [e4] at h1; cases h1
    exact h3 (.inr rfl)
  ·by_cases hk : k = i
   ·exfalso
    subst hk
    cases at_set e4
    rw [ne_set hj] at e1 e3
    obtain ⟨b, h1, h2, h3⟩ := R.ow j _ e1
    rw [e3] at h1; cases h1
    exact h3 (.inr rfl)
   ·rw [ne_set hj] at e1 e3
    rw [ne_set hk] at e2 e4
    exact R.nd j k _ _ b e1 e2 e3 e4
theorem Ext.seto {σ0 : St} {η0 : EP'} {H0 : Hp} (e : Ext σ0 η0 σ η H0 H) (hn : Nw H0 a) (h0 : (0 : Nat) ≠ i) : Ext σ0 η0 (σ.set i (some (.ref a))) (η.set i (.ow o)) H0 H := by
 refine ⟨e.keep, e.live, fun b z => ?_, fun p q => ?_⟩
 rotate_left
 ·rw [ne_set h0] at q ⊢
  exact e.fst p q
 obtain ⟨j, p, h1, h2⟩ := z
 by_cases hj : j = i
 ·subst hj
  cases at_set h1
  exact .inr hn
 ·rw [ne_set hj] at h1 h2
  exact e.new b ⟨j, p, h1, h2⟩
end
section
variable {X : Cx} {T : List (Addr × Str)} {e o : Expr} {es : List Expr} {te ta tb : TEp} {t : TAp} {tf : TFp} {pos : Pos}
def tValP (tf : TFp) : TEp := fun η P => tf η fun xs η1 => P (.lst xs) η1
theorem z_val (h : PE X e (upF X.K T tf)) : PE X e (up X.K T (tValP tf)) := by
 refine PE.weak h fun σ H Q q => ?_
 obtain ⟨F, η, P, R, h, k⟩ := q
 refine ⟨F, η, _, R, h, fun xs η' a vs H' h1 e1 R1 hn nf hv r => ?_⟩
 refine k _ _ _ _ h1 e1 (R1.shrink fun b z => .inl z) ?_
 unfold Rep
 refine ⟨a, vs, rfl, fun z => ?_, hv, r.mono fun b z => z.elim (fun z => .inl (.inl z)) .inr⟩
 rcases z with z | ⟨j, p, h1, h2⟩
 ·exact nf z
 ·obtain ⟨b, q1, q2, q3⟩ := R1.ow j p h2
  rw [h1] at q1; cases q1
  exact q3 (.inr rfl)
def tLstFP (t : TAp) : TFp := fun η P => t η fun xs η1 => xs.length ≤ sizeLine ∧ P xs η1
theorem zf_lst (h : PA X es (upA X.K T t)) : PE X (.List es pos) (upF X.K T (tLstFP t)) := by
 refine PE.weak (pe_lst h) fun σ H Q q => ?_
 obtain ⟨F, η, P, R, h, k⟩ := q
 refine ⟨F, η, _, R, h, fun xs η1 vs H1 h1 e1 R1 r1' => ⟨by rw [r1'.len]; exact h1.1, fun p hp => ?_⟩⟩
 have hn : Nw H p := e1.nw (Nw.of hp)
 exact k xs η1 p vs _ h1.2 (e1.trans (.same (Same.new hp))) (R1.add hp nofun) hn (fun z => R.tr p z hn) upd_same (r1'.car (car_add hp))
def tSetFP (i : Nat) (tf : TFp) : TSp := fun D η => (0 : Nat) ≠ i ∧ tf η fun xs η1 => i < η1.length ∧ D.nx (η1.set i (.ow (.l xs)))
theorem z_setF {i : Nat} {x : Str} {pos' : Pos} (hN : X.N.Nodup) (hi : X.N[i]? = some x) (hx : Loc X.env.scope x) (he : PE X e (upF X.K T tf)) (hs : swapsWith e (some (.Name x pos')) pos.line X.env = pure false := by rfl) (hf : X.fn x = true ∨ X.env.scope.names.lookup x = some .local := by first | exact .inl rfl | exact .inr rfl | assumption) :
  PS X (.Assign [.Name x pos'] e pos) (upS X.K T (tSetFP i tf)) := by
 refine PS.weak (ps_set hN hi hx he hs hf) fun D σ H q => ?_
 obtain ⟨F, η, D', R, ⟨hi, h⟩, k1, k2, k3, k4⟩ := q
 refine ⟨F, η, _, R, h, fun xs η1 a vs H1 h1 e1 R1 hn nf hv r => ?_⟩
 exact k1 _ _ _ h1.2 (e1.seto hn hi) (R1.seto nf ⟨vs, hv, r⟩ h1.1)
def tAppP (i : Nat) (te : TEp) : TSp := fun D η => (∃ xs, η[i]? = some (Sl.ow (.l xs))) ∧ te η fun x η1 => match η1[i]? with
 | some (.ow (.l xs)) => xs.length < sizeLine ∧ D.nx (η1.set i (.ow (.l (xs ++ [x]))))
 | _ => False
theorem z_app {i : Nat} {K0 : PySem.W.Frag} (hK : X.K = K0) (pf : PS X (.Expr o pos) (tDrop (tBM K0 "list" rAppend (tVar i) (tCons (up K0 T te) tNil)))) : PS X (.Expr o pos) (upS K0 T (tAppP i te)) := by
 subst hK
 refine PS.weak pf fun D σ H q => ?_
 obtain ⟨F, η, D', R, ⟨⟨oo, ho⟩, h⟩, k1, k2, k3, k4⟩ := q
 obtain ⟨b, hw, q0, _⟩ := R.ow i _ ho
 refine ⟨_, hw, ?_, F, η, _, R, h, fun y η1 u H1 h1 e1 R1 r1 => ?_⟩
 ·obtain ⟨vs, q1, q2⟩ := q0; exact .inl ⟨rfl, vs, SqL.of q1⟩
 ·split at h1
  ·rename_i xs e
   obtain ⟨a, s, ⟨vs, q1, q2⟩, nf⟩ := R1.ow i _ e
   rw [hw] at s; cases s
   refine ⟨b, vs, u, rfl, rfl, q1, by rw [q2.len]; exact h1.1, ?_⟩
   obtain ⟨W, E⟩ := R1.write (o' := .l (xs ++ [y])) (u := .lst (vs ++ [u])) e hw q1 nofun nofun nofun fun c => ⟨_, upd_same, (q2.app (.cons r1 .nil)).car c⟩
   exact k1 _ _ _ h1.2 (e1.trans E) W
  ·cases h1
end
section
variable {X : Cx} {T : List (Addr × Str)} {a b e o : Expr} {es : List Expr} {te ta tb : TEp} {t : TAp} {tf : TFp} {pos : Pos}
def strRep (x : Str) (n : Nat) : Str := ⟨((List.replicate n x.cps.toList).flatten).toArray⟩
theorem fold_app (c : Array Nat) : ∀ (n : Nat) (acc : Array Nat), (List.replicate n c).foldl (· ++ ·) acc = acc ++ ((List.replicate n c.toList).flatten).toArray
 | 0, acc => by simp
 | n + 1, acc => by
  rw [List.replicate_succ, List.foldl_cons, fold_app c n, List.replicate_succ, List.flatten_cons]
  apply Array.toList_inj.mp
  simp
theorem strRep_len (x : Str) (n : Nat) : (strRep x n).length = n * x.length := by
 show ((List.replicate n x.cps.toList).flatten).toArray.size = _
 rw [List.size_toArray, PyProof.Rows.lm_len_rep_flat]
 simp [Str.length]
def rMulS : R2p := fun x y P => match x, y with
 | .str z, .int n => 1 ≤ n ∧ n ≤ 1000 ∧ z.length ≤ 1000 ∧ P (.str (strRep z n.toNat))
 | _, _ => False
theorem zo_mulS : OpR X (binaryOp .Mult) (r2 X.K rMulS) := by
 intro pins s σ H x y v u Q I rx ry h
 obtain ⟨O, px, py, P, tr, hx, hy, h, k⟩ := h
 unfold rMulS at h
 split at h
 ·rename_i z n
  obtain ⟨h1, h2, h3, h⟩ := h
  cases hx.str_
  cases hy.int_
  obtain ⟨t, rfl⟩ := rx
  obtain ⟨t', rfl⟩ := ry
  have hn : ¬ n < 1 := by omega
  have hz : z.length * n.toNat ≤ 1000000 := by
   have := Nat.mul_le_mul h3 (show n.toNat ≤ 1000 by omega)
   omega
  refine PySem.P.mul_str (by rw [decide_eq_false (by omega), decide_eq_false (by omega)]; rfl) (fun _ _ => ?_) (fun _ _ => ?_) ?_
  ·have q : (1000 : Int) ≤ (2 ^ 63 - 1) / n := by
    apply Int.le_ediv_of_mul_le (by omega)
    omega
   omega
  ·exact decide_eq_false (by rw [sizeLine_eq]; omega)
  ·rw [if_neg hn]
   split
   ·rename_i hc
    have e : strRep z n.toNat = z := by
     rw [Bool.or_eq_true] at hc
     rcases hc with hc | hc
     ·have : n = 1 := by simpa using hc
      subst this
      show (⟨((List.replicate 1 z.cps.toList).flatten).toArray⟩ : Str) = z
      simp
     ·have h0 : z.length = 0 := by simpa using hc
      have : z.cps = #[] := by simpa [Str.length] using h0
      show (⟨((List.replicate _ z.cps.toList).flatten).toArray⟩ : Str) = z
      obtain ⟨c⟩ := z
      simp at this
      subst this
      simp
    exact ⟨.str z, H, I, ⟨_, rfl⟩, k.str (by rw [e] at h; exact h)⟩
   ·have e : (⟨(List.replicate n.toNat z.cps).foldl (· ++ ·) #[]⟩ : Str) = strRep z n.toNat := by
     unfold strRep
     rw [fold_app]
     simp
    rw [e]
    refine ⟨?_, .str _, H, I.tok _, ⟨_, rfl⟩, k.str h⟩
    rw [strRep_len, sizeLine_eq, Nat.mul_comm]; omega
 ·cases h
def rIxP : R2p := fun x y P => match x, y with
 | .lst xs, .int i => ∃ v, atI xs i = some v ∧ P v
 | .tup xs, .int i => ∃ v, atI xs i = some v ∧ P v
 | .scr ns, .int i => ∃ v, atI ns i = some v ∧ P (.int v)
 | .str z, .int i => z.length ≤ sizeLine ∧ ∃ c, atI z.cps.toList i = some c ∧ P (.str ⟨#[c]⟩)
 | _, _ => False
theorem atI_reps {K : PySem.W.Frag} {O H} {xs : List PV} {vs : List V} {i : Int} {x : PV} (h : Reps K O H xs vs) (e : atI xs i = some x) : ∃ v, atI vs i = some v ∧ Rep K O H x v := by
 unfold atI at e ⊢
 rw [h.len]
 cases q : ixN xs.length i with
 | none => rw [q] at e; cases e
 | some j =>
  rw [q] at e
  obtain ⟨v, h1, h2⟩ := h.get (i := j) (x := x) e
  exact ⟨v, h1, h2⟩
theorem IxR.weak {r r' : R2} (h : IxR X r) (w : ∀ x y H Q, r' x y H Q → r x y H Q) : IxR X r' := fun value slice pins s σ H x y v u Q I rx ry q hs => h value slice pins s σ H x y v u Q I rx ry (w _ _ _ _ q) hs
theorem zx_ix : IxR X (r2 X.K rIxP) := by
 refine IxR.weak (ix_seq (X := X)) fun x y H Q h => ?_
 obtain ⟨O, px, py, P, tr, hx, hy, h, k⟩ := h
 unfold rIxP at h
 split at h
 ·obtain ⟨w, e, h⟩ := h
  obtain ⟨a, vs, rfl, n, q, rr⟩ := hx.lst_
  obtain ⟨v, e1, r1⟩ := atI_reps rr e
  exact .inl ⟨a, vs, _, v, rfl, hy.int_, SqL.of q, e1, k _ _ _ h (Same.refl _) r1⟩
 ·obtain ⟨w, e, h⟩ := h
  obtain ⟨a, vs, rfl, q, rr⟩ := hx.tup_
  obtain ⟨v, e1, r1⟩ := atI_reps rr e
  exact .inr (.inl ⟨a, vs, _, v, rfl, hy.int_, q.sq, e1, k _ _ _ h (Same.refl _) r1⟩)
 ·obtain ⟨w, e, h⟩ := h
  obtain ⟨a, o, rfl, n, q⟩ := hx.scr_
  refine .inl ⟨a, _, _, .int w, rfl, hy.int_, .inl (.inr ⟨o, q⟩), ?_, k.int h⟩
  unfold atI at e ⊢
  rw [List.length_map]
  cases q : ixN _ _ with
  | none => rw [q] at e; cases e
  | some j =>
   rw [q] at e
   show (List.map V.int _)[j]? = _
   rw [List.getElem?_map, show _[j]? = some w from e]; rfl
 ·obtain ⟨hz, c, e, h⟩ := h
  cases hx.str_
  exact .inr (.inr ⟨_, _, c, rfl, hy.int_, hz, e, k.str h⟩)
 ·cases h
theorem z_ix (ha : PE X a (up X.K T ta)) (hb : PE X b (up X.K T tb)) (hs : PlainIx b := by exact fun _ _ => rfl) : PE X (.Subscript a b pos) (up X.K T (tOpP rIxP ta tb)) := by
 refine PE.weak (pe_ix zx_ix ha hb hs) fun σ H Q q => ?_
 obtain ⟨F, η, P, R, h, k⟩ := q
 refine ⟨F, η, _, R, h, fun x η1 v H1 h1 e1 R1 r1' => ⟨F, η1, _, R1, h1, fun y η2 w H2 h2 e2 R2' rw' => ?_⟩⟩
 exact ⟨Oof F σ η2, x, y, _, R2'.trO, r1'.car e2.car, rw', h2, fun z u H3 pz s rz => k z η2 u H3 pz ((e1.trans e2).trans (.same s)) (R2'.same s) rz⟩
def tIxOP (i : Nat) (ti : TEp) : TEp := fun η P => (∃ o, η[i]? = some (Sl.ow o)) ∧ ti η fun k η1 => match η1[i]? with
 | some (.ow (.l xs)) => ∃ kk v, k = .int kk ∧ atI xs kk = some v ∧ P v η1
 | _ => False
theorem z_ixO {i : Nat} (ho : PE X o (tVar i)) (hb : PE X b (up X.K T tb)) (hs : PlainIx b := by exact fun _ _ => rfl) : PE X (.Subscript o b pos) (up X.K T (tIxOP i tb)) := by
 refine PE.weak (pe_ix ix_list ho hb hs) fun σ H Q q => ?_
 obtain ⟨F, η, P, R, ⟨⟨oo, ho⟩, h⟩, k⟩ := q
 obtain ⟨b, hw, q0, _⟩ := R.ow i _ ho
 refine ⟨_, hw, F, η, _, R, h, fun y η1 u H1 h1 e1 R1 r1 => ?_⟩
 split at h1
 ·rename_i xs e
  obtain ⟨kk, v, rfl, hv, h1⟩ := h1
  obtain ⟨a, s, ⟨vs, q1, q2⟩, nf⟩ := R1.ow i _ e
  rw [hw] at s; cases s
  obtain ⟨w, e1', r1'⟩ := atI_reps q2 hv
  exact ⟨b, vs, kk, w, rfl, r1.int_, SqL.of q1, e1', k _ _ _ _ h1 e1 R1 r1'⟩
 ·cases h1
abbrev TOp := EP' → (Option Int → EP' → Prop) → Prop
def upO (K : PySem.W.Frag) (T : List (Addr × Str)) (tp : TOp) : TO := fun σ H Q => ∃ F η P, Rs K T F σ η H ∧ tp η P ∧ ∀ x η' H', P x η' → Ext σ η σ η' H H' → Rs K T F σ η' H' → Q x H'
def tNoPartP : TOp := fun η P => P none η
def tPartP (t : TEp) : TOp := fun η P => t η fun x η1 => match x with
 | .int i => P (some i) η1
 | _ => False
theorem PO.weak {e : Option Expr} {t t' : TO} (h : PO X e t) (w : ∀ σ H Q, t' σ H Q → t σ H Q) : PO X e t' := ⟨fun pins s σ H Q I q => h.run pins s σ H Q I (w _ _ _ q)⟩
theorem zp_none : PO X none (upO X.K T tNoPartP) := PO.weak po_none fun σ H Q q => by
 obtain ⟨F, η, P, R, h, k⟩ := q
 exact k _ _ _ h .refl R
theorem zp_some (h : PE X e (up X.K T te)) : PO X (some e) (upO X.K T (tPartP te)) := PO.weak (po_some h) fun σ H Q q => by
 obtain ⟨F, η, P, R, h, k⟩ := q
 refine ⟨F, η, _, R, h, fun x η1 v H1 h1 e1 R1 r => ?_⟩
 split at h1
 ·exact ⟨_, r.int_, k _ _ _ h1 e1 R1⟩
 ·cases h1
def cutP {α : Type} (xs : List α) (lo hi : Option Int) : List α := (xs.drop (HT.sIx xs.length 0 lo)).take (HT.sIx xs.length xs.length hi - HT.sIx xs.length 0 lo)
theorem cut_reps {K : PySem.W.Frag} {O H} {xs : List PV} {vs : List V} {lo hi} (h : Reps K O H xs vs) : Reps K O H (cutP xs lo hi) (cutV vs lo hi) := by
 unfold cutP cutV
 rw [h.len]
 exact (h.drop _).take _
def rSlP : PV → Option Int → Option Int → (PV → Prop) → Prop := fun x lo hi P => match x with
 | .lst xs => P (.lst (cutP xs lo hi))
 | .scr ns => P (.lst ((cutP ns lo hi).map .int))
 | .str z => z.length ≤ sizeLine ∧ P (.str (cutS z lo hi))
 | .tup xs => ¬ (HT.sIx xs.length 0 lo = 0 ∧ HT.sIx xs.length xs.length hi = xs.length) ∧ P (.tup (cutP xs lo hi))
 | _ => False
theorem SlR.weak {r r' : V → Option Int → Option Int → Hp → VK → Prop} (h : SlR X r) (w : ∀ x lo hi H Q, r' x lo hi H Q → r x lo hi H Q) : SlR X r' := fun pins s σ H x v vl vu lo hi sl Q I rx hs pl pu q => h pins s σ H x v vl vu lo hi sl Q I rx hs pl pu (w _ _ _ _ _ q)
theorem ints_reps {K : PySem.W.Frag} {O H} : ∀ ns : List Int, Reps K O H (ns.map .int) (ns.map V.int)
 | [] => .nil
 | _ :: r => .cons rep_int (ints_reps r)
theorem cut_ints (ns : List Int) (lo hi) : cutV (ns.map V.int) lo hi = (cutP ns lo hi).map V.int := by
 unfold cutP cutV
 rw [List.length_map, ← List.map_drop, ← List.map_take]
theorem zl_sl : SlR X (fun x lo hi H Q => ∃ O px P, Trk O H ∧ Rep X.K O H px x ∧ rSlP px lo hi P ∧ Out X.K O H P Q) := by
 refine SlR.weak ((sl_list (X := X)).or (sl_str.or sl_tup)) fun x lo hi H Q h => ?_
 obtain ⟨O, px, P, tr, hx, h, k⟩ := h
 unfold rSlP at h
 split at h
 ·obtain ⟨a, vs, rfl, n, q, rr⟩ := hx.lst_
  exact .inl ⟨a, vs, rfl, SqL.of q, fun p hp => k.newL h tr (cut_reps rr) hp⟩
 ·obtain ⟨a, o, rfl, n, q⟩ := hx.scr_
  refine .inl ⟨a, _, rfl, .inl (.inr ⟨o, q⟩), fun p hp => ?_⟩
  rw [cut_ints]
  exact k.newL h tr (ints_reps _) hp
 ·cases hx.str_
  exact .inr (.inl ⟨_, rfl, h.1, k.str h.2⟩)
 ·obtain ⟨a, vs, rfl, q, rr⟩ := hx.tup_
  exact .inr (.inr ⟨a, vs, rfl, q.sq, by rw [rr.len]; exact h.1, fun p hp => k.newT h.2 tr (cut_reps rr) hp⟩)
 ·cases h
def tSliceP (te : TEp) (tl th : TOp) : TEp := fun η P => te η fun x η1 => tl η1 fun l η2 => th η2 fun u η3 => rSlP x l u fun z => P z η3
theorem z_slice {lo hi : Option Expr} {tl th : TOp} {p2 : Pos} (he : PE X e (up X.K T te)) (hl : PO X lo (upO X.K T tl)) (hu : PO X hi (upO X.K T th)) : PE X (.Subscript e (.Slice lo hi none p2) pos) (up X.K T (tSliceP te tl th)) := by
 refine PE.weak (pe_slice zl_sl he hl hu) fun σ H Q q => ?_
 obtain ⟨F, η, P, R, h, k⟩ := q
 refine ⟨F, η, _, R, h, fun x η1 v H1 h1 e1 R1 r1' => ⟨F, η1, _, R1, h1, fun l η2 H2 h2 e2 R2' => ⟨F, η2, _, R2', h2, fun u η3 H3 h3 e3 R3 => ?_⟩⟩⟩
 exact ⟨Oof F σ η3, x, _, R3.trO, (r1'.car e2.car).car e3.car, h3, fun z u H4 pz s rz => k z η3 u H4 pz (((e1.trans e2).trans e3).trans (.same s)) (R3.same s) rz⟩
def strsOf : List PV → Option (List Str)
 | [] => some []
 | .str b :: r => (strsOf r).map (b :: ·)
 | _ => none
theorem strsOf_rep {K : PySem.W.Frag} {O H} : ∀ {xs : List PV} {bs : List Str} {vs : List V}, strsOf xs = some bs → Reps K O H xs vs → vs = bs.map V.str
 | [], _, _, e, h => by unfold strsOf at e; cases e; exact h.inv0
 | x :: xs, _, _, e, h => by
  obtain ⟨v, us, rfl, r, t⟩ := h.inv
  cases x <;> unfold strsOf at e <;> try (cases e)
  cases q : strsOf xs with
  | none => rw [q] at e; cases e
  | some r' =>
   rw [q] at e; cases e
   rw [r.str_, strsOf_rep q t]; rfl
def tJoinP (ta tb : TEp) : TEp := fun η P => ta η fun x η1 => (∃ z, x = .str z) ∧ tb η1 fun y η2 => match x, y with
 | .str z, .lst xs => ∃ ys, strsOf xs = some ys ∧ (ys.map (·.length)).sum + ys.length * z.length ≤ 16777216 ∧ P (.str (Txt.join z ys)) η2
 | _, _ => False
theorem z_join {K0 : PySem.W.Frag} (hK : X.K = K0)
  (pf : PE X e (tM1 (fun x xs H Q => ∃ a p, ∃ ys : List Str, x = .str a ∧ xs = [.ref p] ∧ (SqL K0 H p (ys.map V.str) ∨ SqT K0 H p (ys.map V.str)) ∧ (ys.map (·.length)).sum + ys.length * a.length ≤ 16777216 ∧ Q (.str (Txt.join a ys)) H) (up K0 T ta) (up K0 T tb))) : PE X e (up K0 T (tJoinP ta tb)) := by
 subst hK
 refine PE.weak pf fun σ H Q q => ?_
 obtain ⟨F, η, P, R, h, k⟩ := q
 refine ⟨F, η, _, R, h, fun x η1 v H1 h1 e1 R1 r1' => ?_⟩
 obtain ⟨⟨z, rfl⟩, h1⟩ := h1
 cases r1'.str_
 refine ⟨⟨z, rfl⟩, F, η1, _, R1, h1, fun y η2 w H2 h2 e2 R2' rw' => ?_⟩
 split at h2
 ·rename_i z' xs q
  cases q
  obtain ⟨ys, e, hz, h2⟩ := h2
  obtain ⟨p, vs, rfl, n, q, rr⟩ := rw'.lst_
  have := strsOf_rep e rr
  subst this
  exact ⟨_, p, ys, rfl, rfl, .inl (SqL.of q), hz, k _ _ _ _ h2 (e1.trans e2) R2' rep_str⟩
 ·cases h2
end
def Itr8 (K : PySem.W.Frag) (O : Addr → Prop) (J : It) (xs : List PV) (H : Hp) : Prop :=
 ∀ O' H', Trk O' H' → Car O O' H H' → (∀ b, ¬ Nw H b → ¬ Nw H' b) → ∀ i : Nat, (∀ x, xs[i]? = some x → J.go i H' ∧ ∀ v H'', J.yld i H' v H'' → Same H' H'' ∧ Rep K O' H'' x v) ∧ (xs.length = i → J.stop i H')
abbrev TIp := EP' → (List PV → EP' → Prop) → Prop
def upI (K : PySem.W.Frag) (T : List (Addr × Str)) (tp : TIp) : TI := fun σ H R => ∃ F η P, Rs K T F σ η H ∧ tp η P ∧ ∀ xs η' J H', P xs η' → Ext σ η σ η' H H' → Rs K T F σ η' H' → Itr8 K (Oof F σ η') J xs H' → R J H'
section
variable {X : Cx} {T : List (Addr × Str)} {a b e o tg : Expr} {es : List Expr} {te ta tb : TEp} {t : TAp} {tf : TFp} {pos : Pos}
theorem PI.weak {t t' : TI} (h : PI X tg e t) (w : ∀ σ H Q, t' σ H Q → t σ H Q) : PI X tg e t' := ⟨fun pins s σ H Q I q => h.run pins s σ H Q I (w _ _ _ q)⟩
def iListP (te : TEp) : TIp := fun η P => te η fun x η1 => match x with
 | .lst xs => P xs η1
 | .scr ns => P (ns.map .int) η1
 | _ => False
def iTupP (te : TEp) : TIp := fun η P => te η fun x η1 => match x with
 | .tup xs => P xs η1
 | _ => False
def iStrP (te : TEp) : TIp := fun η P => te η fun x η1 => match x with
 | .str z => P (z.cps.toList.map fun c => .str ⟨#[c]⟩) η1
 | _ => False
def rangeP (lo : Int) (n : Nat) : List PV := (List.range n).map fun (i : Nat) => .int (lo + i)
def iRng1P (te : TEp) : TIp := fun η P => te η fun x η1 => match x with
 | .int j => -(2 ^ 62) ≤ j ∧ j < 2 ^ 62 ∧ P (rangeP 0 j.toNat) η1
 | _ => False
theorem it_list {K : PySem.W.Frag} {O H} {a : Addr} {xs : List PV} {vs : List V} (n : ¬ O a) (h : H a = some (.lst vs)) (r : Reps K O H xs vs) : Itr8 K O (Itl K a) xs H := fun O' H' tr c _ i => by
 have h' := (c a _ n h nofun).1
 have r' := r.car c
 have uniq : ∀ ys, SqL K H' a ys → ys = vs ∨ True := fun _ _ => .inr trivial
 refine ⟨fun x e => ?_, fun e => ⟨vs, SqL.of h', by rw [r'.len]; exact Nat.le_of_eq e⟩⟩
 obtain ⟨v, e1, r1⟩ := r'.get e
 refine ⟨⟨vs, v, SqL.of h', e1⟩, fun w H'' y => ?_⟩
 obtain ⟨e2, y⟩ := y
 subst e2
 have := y vs (SqL.of h')
 rw [e1] at this; cases this
 exact ⟨Same.refl _, r1⟩
theorem zi_list (h : PE X e (up X.K T te)) : PI X tg e (upI X.K T (iListP te)) := by
 refine PI.weak (pi_list h) fun σ H Q q => ?_
 obtain ⟨F, η, P, R, h, k⟩ := q
 refine ⟨F, η, _, R, h, fun x η1 v H1 h1 e1 R1 r1 => ?_⟩
 split at h1
 ·obtain ⟨a, vs, rfl, n, q, rr⟩ := r1.lst_
  exact ⟨a, rfl, ⟨vs, SqL.of q⟩, k _ _ _ _ h1 e1 R1 (it_list n q rr)⟩
 ·rename_i ns
  obtain ⟨a, o, rfl, n, q⟩ := r1.scr_
  refine ⟨a, rfl, ⟨_, .inl (.inr ⟨o, q⟩)⟩, k _ _ _ _ h1 e1 R1 fun O' H' tr c _ i => ?_⟩
  have h' : SqL X.K H' a (ns.map V.int) := .inl (.inr ⟨o, (c a _ n q nofun).1⟩)
  refine ⟨fun x e => ?_, fun e => ⟨_, h', by simp at e ⊢; omega⟩⟩
  have e' : (ns.map V.int)[i]? = (ns[i]?).map V.int := List.getElem?_map
  rw [List.getElem?_map] at e
  cases q : ns[i]? with
  | none => rw [q] at e; cases e
  | some j =>
   rw [q] at e e'; cases e
   refine ⟨⟨_, _, h', e'⟩, fun w H'' y => ?_⟩
   obtain ⟨e2, y⟩ := y
   subst e2
   have := y _ h'
   rw [e'] at this; cases this
   exact ⟨Same.refl _, rep_int⟩
 ·cases h1
theorem TupAt.inj_car {K : PySem.W.Frag} {O O' H H'} {a : Addr} {vs : List V} (t : TupAt K O H a vs) (c : Car O O' H H') : SqT K H' a vs := (t.car c).sq
theorem zi_tup (h : PE X e (up X.K T te)) : PI X tg e (upI X.K T (iTupP te)) := by
 refine PI.weak (pi_tup h) fun σ H Q q => ?_
 obtain ⟨F, η, P, R, h, k⟩ := q
 refine ⟨F, η, _, R, h, fun x η1 v H1 h1 e1 R1 r1 => ?_⟩
 split at h1
 ·obtain ⟨a, vs, rfl, q, rr⟩ := r1.tup_
  refine ⟨a, rfl, ⟨vs, q.sq⟩, k _ _ _ _ h1 e1 R1 fun O' H' tr c _ i => ?_⟩
  have h' := q.inj_car c
  have r' := rr.car c
  refine ⟨fun x e => ?_, fun e => ⟨vs, h', by rw [r'.len]; exact Nat.le_of_eq e⟩⟩
  obtain ⟨v, e1, r1⟩ := r'.get e
  refine ⟨⟨vs, v, h', e1⟩, fun w H'' y => ?_⟩
  obtain ⟨e2, y⟩ := y
  subst e2
  have := y vs h'
  rw [e1] at this; cases this
  exact ⟨Same.refl _, r1⟩
 ·cases h1
theorem zi_str (h : PE X e (up X.K T te)) : PI X tg e (upI X.K T (iStrP te)) := by
 refine PI.weak (pi_str h) fun σ H Q q => ?_
 obtain ⟨F, η, P, R, h, k⟩ := q
 refine ⟨F, η, _, R, h, fun x η1 v H1 h1 e1 R1 r1 => ?_⟩
 split at h1
 ·rename_i z
  cases r1.str_
  refine ⟨z, rfl, k _ _ _ _ h1 e1 R1 fun O' H' tr c _ i => ⟨fun x e => ?_, fun e => ?_⟩⟩
  ·rw [List.getElem?_map] at e
   cases q : z.cps.toList[i]? with
   | none => rw [q] at e; cases e
   | some c0 =>
    rw [q] at e; cases e
    have q' : z.cps[i]? = some c0 := by rw [← Array.getElem?_toList]; exact q
    refine ⟨(Array.getElem?_eq_some_iff.mp q').1, fun w H'' y => ?_⟩
    obtain ⟨e2, c1, e3, rfl⟩ := y
    subst e2
    rw [q'] at e3; cases e3
    exact ⟨Same.refl _, rep_str⟩
  ·show z.cps.size ≤ i
   simp at e; omega
 ·cases h1
theorem it_range {K : PySem.W.Frag} {O H} {lo : Int} {n : Nat} : Itr8 K O (Itr lo n) (rangeP lo n) H := fun O' H' tr c _ i => by
 refine ⟨fun x e => ?_, fun e => ?_⟩
 ·unfold rangeP at e
  rw [List.getElem?_map] at e
  by_cases hi : i < n
  ·rw [List.getElem?_range hi] at e
   cases e
   refine ⟨hi, fun w H'' y => ?_⟩
   obtain ⟨e2, rfl⟩ := y
   subst e2
   exact ⟨Same.refl _, rep_int⟩
  ·rw [List.getElem?_eq_none (by simpa using hi)] at e; cases e
 ·show n ≤ i
  simp [rangeP] at e; omega
theorem zi_range1 {p : Pos} (hg : Gl X "range") (hm : X.mg "range" = none) (ha : PE X a (up X.K T te)) (hs : starEach [a] X.env = [(false, eval a X.env)] := by rfl) : PI X tg (.Call (.Name "range" p) [a] [] pos) (upI X.K T (iRng1P te)) := by
 refine PI.weak (pi_range1 hg hm (pa_cons ha pa_nil hs) hs) fun σ H Q q => ?_
 obtain ⟨F, η, P, R, h, k⟩ := q
 refine ⟨F, η, _, R, h, fun x η1 v H1 h1 e1 R1 r1 => ?_⟩
 split at h1
 ·exact ⟨_, by rw [r1.int_], h1.1, h1.2.1, k _ _ _ _ h1.2.2 e1 R1 it_range⟩
 ·cases h1
def iRng2P (te tb : TEp) : TIp := fun η P => te η fun x η1 => tb η1 fun y η2 => match x, y with
 | .int i, .int j => -(2 ^ 62) ≤ i ∧ i < 2 ^ 62 ∧ -(2 ^ 62) ≤ j ∧ j < 2 ^ 62 ∧ P (rangeP i (j - i).toNat) η2
 | _, _ => False
def tForP (ti : TIp) (g : TGp) (tb : TSp) : TSp := fun D η => ti η fun xs η1 => ∃ Inv : Nat → EP' → Prop, Inv 0 η1 ∧
 (∀ i x η2, xs[i]? = some x → Inv i η2 → g x η2 fun η3 => tb { D with nx := Inv (i + 1), ct := Inv (i + 1), bk := D.nx } η3) ∧ (∀ η2, Inv xs.length η2 → D.nx η2)
theorem z_for {iter : Expr} {body : List Stmt} {ti : TIp} {g : TGp} {tb : TSp} (hp : PassesOwn (model X.prog X.w) X.A X.env X.xe) (hc : X.calm = true) (hi : PI X tg iter (upI X.K T ti)) (hg : PG X tg (upG X.K T g)) (hb : PSs X body (upS X.K T tb))
  (hs : ∀ x, foldedSetIterable iter X.env x = pure x := by intro _; rfl) : PS X (.For tg iter body [] pos) (upS X.K T (tForP ti g tb)) := by
 refine PS.weak (ps_for hp hc hi hg hb hs) fun D σ H q => ?_
 obtain ⟨F, η, D', R, h, k1, k2, k3, k4⟩ := q
 refine ⟨F, η, _, R, h, fun xs η1 J H1 h1 e1 R1 hJ => ?_⟩
 obtain ⟨Inv, i0, step, fin⟩ := h1
 refine ⟨fun i m σ2 H2 => m = xs.length - i ∧ i ≤ xs.length ∧ ∃ η2, Inv i η2 ∧ Rs X.K T F σ2 η2 H2 ∧ Ext σ η1 σ2 η2 H1 H2, ⟨_, rfl, Nat.zero_le _, η1, i0, R1, .refl⟩, ?_⟩
 rintro i m σ2 H2 ⟨rfl, hi, η2, p, R2, e2⟩
 have it := hJ (Oof F σ2 η2) H2 R2.trO e2.car e2.live i
 by_cases hlt : i < xs.length
 ·refine .inr ⟨(it.1 xs[i] (by simp [hlt])).1, fun σ3 H3 => ∃ η3, Inv (i + 1) η3 ∧ Rs X.K T F σ3 η3 H3 ∧ Ext σ η1 σ3 η3 H1 H3, fun σ' H' ⟨η3, p', R', e'⟩ => ⟨xs.length - (i + 1), by omega, rfl, hlt, η3, p', R', e'⟩, fun v H3 y => ?_⟩
  obtain ⟨s, rep⟩ := (it.1 xs[i] (by simp [hlt])).2 v H3 y
  refine ⟨F, η2, _, _, R2.same s, rep, step i _ η2 (by simp [hlt]) p, fun η4 σ4 H4 h4 e4 R4 => ?_⟩
  have E := (e2.trans (.same s)).trans e4
  exact ⟨F, η4, _, R4, h4, fun η5 σ5 H5 h5 e5 R5 => ⟨η5, h5, R5, E.trans e5⟩, fun η5 σ5 H5 h5 e5 R5 => k1 _ _ _ h5 ((e1.trans E).trans e5) R5, fun η5 σ5 H5 h5 e5 R5 => ⟨η5, h5, R5, E.trans e5⟩, fun x η5 σ5 v H5 h5 e5 R5 r5 => k4 _ _ _ _ _ h5 ((e1.trans E).trans e5) R5 r5⟩
 ·have e : i = xs.length := by omega
  subst e
  exact .inl ⟨it.2 rfl, k1 _ _ _ (fin η2 p) (e1.trans e2) R2⟩
end
def wipeP (η : EP') : List Nat → EP'
 | [] => η
 | v :: vs => (wipeP η vs).set v .no
theorem wipeP_len (η : EP') : ∀ vs : List Nat, (wipeP η vs).length = η.length
 | [] => rfl
 | v :: vs => by unfold wipeP; rw [List.length_set, wipeP_len η vs]
theorem wipeP_out {η : EP'} {i : Nat} : ∀ {vs : List Nat}, i ∉ vs → (wipeP η vs)[i]? = η[i]?
 | [], _ => rfl
 | v :: vs, h => by
  unfold wipeP
  rw [List.getElem?_set_ne (fun e => h (by simp [e])), wipeP_out fun z => h (by simp [z])]
theorem wipeP_in {η : EP'} {i : Nat} {y : Sl} : ∀ {vs : List Nat}, i ∈ vs → (wipeP η vs)[i]? = some y → y = .no
 | v :: vs, h, e => by
  unfold wipeP at e
  by_cases q : i = v
  ·subst q; exact at_set e
  ·rw [ne_set q] at e
   exact wipeP_in (by simpa [q] using h) e
theorem wipe_in {σ : St} {i : Nat} : ∀ {vs : List Nat}, i ∈ vs → (wipe σ vs)[i]? = if i < σ.length then some none else none
 | v :: vs, h => by
  unfold wipe
  by_cases q : i = v
  ·subst q
   by_cases hi : i < σ.length
   ·rw [if_pos hi, List.getElem?_set_self (by rw [wipe_length]; exact hi)]
   ·rw [if_neg hi, List.getElem?_eq_none (by rw [List.length_set, wipe_length]; omega)]
  ·rw [ne_set q]
   exact wipe_in (by simpa [q] using h)
theorem wipe_set {σ : St} {i : Nat} {v : Option V} {vs : List Nat} (h : i ∈ vs) : wipe (σ.set i v) vs = wipe σ vs := by
 apply List.ext_getElem?
 intro j
 by_cases hj : j ∈ vs
 ·rw [wipe_in hj, wipe_in hj, List.length_set]
 ·rw [wipe_out hj, wipe_out hj, ne_set fun e => hj (by rw [e]; exact h)]
theorem wipe_set_all {σ : St} {vs : List Nat} : L2.wipe (L2.wipe σ vs) vs = L2.wipe σ vs := by
 apply List.ext_getElem?
 intro j
 by_cases hj : j ∈ vs
 ·rw [wipe_in hj, wipe_in hj, wipe_length]
 ·rw [wipe_out hj]
theorem wipe_agree {σ σ' : St} {vs : List Nat} (h : wipe σ' vs = wipe σ vs) : σ'.length = σ.length ∧ ∀ j, j ∉ vs → σ'[j]? = σ[j]? := by
 refine ⟨by rw [← wipe_length σ' vs, h, wipe_length], fun j hj => ?_⟩
 rw [← wipe_out (σ := σ') hj, h, wipe_out hj]
section
variable {K : PySem.W.Frag} {T : List (Addr × Str)} {F : Addr → Prop} {σ σ' : St} {η : EP'} {H H' : Hp} {vs : List Nat}
theorem own_wipe (ag : ∀ j, j ∉ vs → σ'[j]? = σ[j]?) {b : Addr} (z : IsOwn σ' (wipeP η vs) b) : IsOwn σ η b := by
 obtain ⟨j, p, h1, h2⟩ := z
 by_cases hj : j ∈ vs
 ·cases wipeP_in hj h2
 ·rw [wipeP_out hj] at h2
  rw [ag j hj] at h1
  exact ⟨j, p, h1, h2⟩
theorem Rs.wipe (R : Rs K T F σ η H) (hl : σ'.length = σ.length) (ag : ∀ j, j ∉ vs → σ'[j]? = σ[j]?) : Rs K T F σ' (wipeP η vs) H := by
 have m : ∀ b, Oof F σ' (wipeP η vs) b → Oof F σ η b := Oof_mono fun b z => own_wipe ag z
 refine ⟨by rw [hl, R.len, wipeP_len], fun j y e => ?_, fun j o e => ?_, fun j k o o' a e1 e2 e3 e4 => ?_, R.tr, R.tb⟩
 ·have hj : j ∉ vs := fun z => nomatch wipeP_in z e
  rw [wipeP_out hj] at e
  obtain ⟨w, h1, h2⟩ := R.va j y e
  exact ⟨w, (ag j hj).trans h1, h2.mono m⟩
 ·have hj : j ∉ vs := fun z => nomatch wipeP_in z e
  rw [wipeP_out hj] at e
  obtain ⟨a, h1, h2, h3⟩ := R.ow j o e
  exact ⟨a, (ag j hj).trans h1, h2.mono m, h3⟩
 ·have hj : j ∉ vs := fun z => nomatch wipeP_in z e1
  have hk : k ∉ vs := fun z => nomatch wipeP_in z e2
  rw [wipeP_out hj] at e1
  rw [wipeP_out hk] at e2
  rw [ag j hj] at e3
  rw [ag k hk] at e4
  exact R.nd j k o o' a e1 e2 e3 e4
theorem Ext.wipe (ag : ∀ j, j ∉ vs → σ'[j]? = σ[j]?) : Ext σ η σ' (wipeP η vs) H H := ⟨fun _ _ e _ _ => e, fun _ e => e, fun b z => .inl (own_wipe ag z), fun o e => by
 have hj : 0 ∉ vs := fun z => nomatch wipeP_in z e
 rw [wipeP_out hj] at e
 exact ⟨o, e, ag 0 hj⟩⟩
theorem Rs.updF {D : Addr} {us ws : List V} (R : Rs K T F σ η H) (hF : F D) (h : H D = some (.lst us)) : Rs K T F σ η (upd H D (.lst ws)) := by
 have c : Car (Oof F σ η) (Oof F σ η) H (upd H D (.lst ws)) := fun b q n hb _ => ⟨by rw [upd_ne (fun z => n (.inl (by rw [z]; exact hF)))]; exact hb, n⟩
 refine ⟨R.len, fun i x e => ?_, fun i o e => ?_, R.nd, fun b hb => ?_, Tabs.upd R.tb h nofun nofun⟩
 ·obtain ⟨v, h1, h2⟩ := R.va i x e
  exact ⟨v, h1, h2.car c⟩
 ·obtain ⟨a, h1, h2, h3⟩ := R.ow i o e
  exact ⟨a, h1, h2.car c (upd_ne fun z => h3 (by rw [z]; exact hF)), h3⟩
 ·exact live_upd nofun (R.tr b hb)
end
section
variable {X : Cx} {T : List (Addr × Str)} {a b e o tg elt iter : Expr} {es ifs : List Expr} {te ta tb : TEp} {t : TAp} {tf : TFp} {pos : Pos}
def upGw (K : PySem.W.Frag) (T : List (Addr × Str)) (vs : List Nat) (g : TGp) : TG := fun v σ H Q => ∃ F η x P, Rs K T F σ η H ∧ Rep K (Oof F σ η) H x v ∧ g x η P ∧ ∀ η' σ' H', P η' → L2.wipe σ' vs = L2.wipe σ vs → Ext σ η σ' η' H H' → Rs K T F σ' η' H' → Q σ' H'
def upGsw (K : PySem.W.Frag) (T : List (Addr × Str)) (vs : List Nat) (g : TGsp) : TGs := fun us σ H Q => ∃ F η xs P, Rs K T F σ η H ∧ Reps K (Oof F σ η) H xs us ∧ g xs η P ∧ ∀ η' σ' H', P η' → L2.wipe σ' vs = L2.wipe σ vs → Ext σ η σ' η' H H' → Rs K T F σ' η' H' → Q σ' H'
theorem zgw_name {vs : List Nat} {i : Nat} (hv : i ∈ vs) (pf : PG X tg (gName i)) : PG X tg (upGw X.K T vs (gNameP i)) := by
 refine PG.weak pf fun v σ H Q q => ?_
 obtain ⟨F, η, x, P, R, r, h, k⟩ := q
 exact k _ _ _ h (wipe_set hv) .setv (R.setv r)
theorem zgsw_nil {vs : List Nat} : PGs X [] (upGsw X.K T vs gNilP) := by
 refine PGs.weak pgs_nil fun v σ H Q q => ?_
 obtain ⟨F, η, x, P, R, r, h, k⟩ := q
 rw [h.1] at r
 exact ⟨r.inv0, k _ _ _ h.2 rfl .refl R⟩
theorem zgsw_cons {vs : List Nat} {t : TGp} {u : TGsp} (pf : PGs X (e :: es) (gCons (upGw X.K T vs t) (upGsw X.K T vs u))) : PGs X (e :: es) (upGsw X.K T vs (gConsP t u)) := by
 refine PGs.weak pf fun v σ H Q q => ?_
 obtain ⟨F, η, x, P, R, r, h, k⟩ := q
 unfold gConsP at h
 split at h
 ·obtain ⟨v, us, rfl, r1, r2⟩ := r.inv
  refine ⟨v, us, rfl, F, η, _, _, R, r1, h, fun η' σ' H' h' w1 e1 R1 => ⟨F, η', _, P, R1, r2.car e1.car, h', fun η'' σ'' H'' h'' w2 e2 R2 => k _ _ _ h'' (w2.trans w1) (e1.trans e2) R2⟩⟩
 ·cases h
theorem zgw_tup {vs : List Nat} {k n : Nat} {t : TGsp} (pf : PG X (.Tuple es k pos) (gTup X.K n (upGsw X.K T vs t))) : PG X (.Tuple es k pos) (upGw X.K T vs (gTupP n t)) := by
 refine PG.weak pf fun v σ H Q q => ?_
 obtain ⟨F, η, x, P, R, r, h, k⟩ := q
 unfold gTupP at h
 split at h
 ·obtain ⟨a, vs, rfl, t, r⟩ := r.tup_
  exact ⟨a, vs, rfl, t.sq, by rw [r.len]; exact h.1, F, η, _, P, R, r, h.2, k⟩
 ·cases h
def tYesP : TTp := fun η P => P true η
theorem PTs.weak {t t' : TT} (h : PTs X ifs t) (w : ∀ σ H Q, t' σ H Q → t σ H Q) : PTs X ifs t' := ⟨fun pins s σ H Q I q => h.run pins s σ H Q I (w _ _ _ q)⟩
theorem zts_nil : PTs X [] (upB X.K T tYesP) := PTs.weak pts_nil fun σ H Q q => by
 obtain ⟨F, η, P, R, h, k⟩ := q
 exact k _ _ _ h .refl R
theorem zts_one {c : Expr} {t : TTp} (h : PT X c (upB X.K T t)) : PTs X [c] (upB X.K T t) := pts_one h
def tLcP (ti : TIp) (g : TGp) (tt : TTp) (te : TEp) (vs : List Nat) : TFp := fun η P => ti η fun xs η1 => ∃ Inv : Nat → List PV → EP' → Prop, Inv 0 [] (wipeP η1 vs) ∧
 (∀ i x acc η2, xs[i]? = some x → Inv i acc η2 → g x (wipeP η2 vs) fun η3 => tt η3 fun b η4 => if b = true then te η4 fun y η5 => acc.length < sizeLine ∧ Inv (i + 1) (acc ++ [y]) (wipeP η5 vs) else Inv (i + 1) acc (wipeP η4 vs)) ∧
 (∀ acc η2, Inv xs.length acc η2 → P acc η2)
theorem lc_weak {K : PySem.W.Frag} {ti : TIp} {g : TGp} {tt : TTp} {te : TEp} {vs : List Nat} {σ : St} {H : Hp} {Q : VK} (q : upF K T (tLcP ti g tt te vs) σ H Q) : tLc (upI K T ti) (upGw K T vs g) (upB K T tt) (up K T te) vs σ H Q := by
 obtain ⟨F, η, P, R, h, k⟩ := q
 refine ⟨F, η, _, R, h, fun xs η1 J H1 h1 e1 R1 hJ D hD => ?_⟩
 obtain ⟨Inv, i0, step, fin⟩ := h1
 have hn : Nw H D := e1.nw (Nw.of hD)
 have nF : ¬ F D := fun z => R.tr D z hn
 have agw : ∀ j, j ∉ vs → (L2.wipe σ vs)[j]? = σ[j]? := fun j hj => wipe_out hj
 refine ⟨fun i m H2 => m = xs.length - i ∧ i ≤ xs.length ∧ ∃ acc us η2, Inv i acc η2 ∧ Rs K T (With F D) σ η2 H2 ∧ Ext σ η1 σ η2 H1 H2 ∧ H2 D = some (.lst us) ∧ Reps K (Oof (With F D) σ η2) H2 acc us, ⟨_, rfl, Nat.zero_le _, [], [], wipeP η1 vs, i0, (R1.add (o := .lst []) hD nofun).wipe rfl (fun _ _ => rfl), ?_, upd_same, .nil⟩, ?_⟩
 ·exact (Ext.same (Same.new hD)).trans (.wipe fun _ _ => rfl)
 rintro i m H2 ⟨rfl, hi, acc, us, η2, p, R2, e2, hd, ru⟩
 have Rb : Rs K T (With F D) (L2.wipe σ vs) (wipeP η2 vs) H2 := R2.wipe (wipe_length _ _) agw
 have eb : Ext σ η1 (L2.wipe σ vs) (wipeP η2 vs) H1 H2 := e2.trans (.wipe agw)
 have carD : Car (Oof F σ η1) (Oof (With F D) (L2.wipe σ vs) (wipeP η2 vs)) H1 H2 := fun b o n hb t => by
  refine ⟨((eb.car (F := F)) b o n hb t).1, fun z => ?_⟩
  rcases z with (z | z) | z
  ·exact n (.inl z)
  ·rw [z, hD] at hb; cases hb
  ·exact ((eb.car (F := F)) b o n hb t).2 (.inr z)
 have it := hJ _ H2 Rb.trO carD e2.live i
 by_cases hlt : i < xs.length
 ·refine .inr ⟨(it.1 xs[i] (by simp [hlt])).1, fun H3 => ∃ acc us η3, Inv (i + 1) acc η3 ∧ Rs K T (With F D) σ η3 H3 ∧ Ext σ η1 σ η3 H1 H3 ∧ H3 D = some (.lst us) ∧ Reps K (Oof (With F D) σ η3) H3 acc us,
   fun H' ⟨acc, us, η3, q1, q2, q3, q4, q5⟩ => ⟨xs.length - (i + 1), by omega, rfl, hlt, acc, us, η3, q1, q2, q3, q4, q5⟩, fun v H3 y => ?_⟩
  obtain ⟨s, rep⟩ := (it.1 xs[i] (by simp [hlt])).2 v H3 y
  refine ⟨With F D, wipeP η2 vs, _, _, Rb.same s, rep, step i _ acc η2 (by simp [hlt]) p, fun η4 σ4 H4 h4 w4 e4 R4 => ⟨by rw [w4]; exact wipe_set_all, With F D, η4, _, R4, h4, fun c η5 H5 h5 e5 R5 => ?_⟩⟩
  have E5 : Ext σ η1 σ4 η5 H1 H5 := ((eb.trans (.same s)).trans e4).trans e5
  have ag4 : ∀ j, j ∉ vs → σ[j]? = σ4[j]? := fun j hj => ((wipe_agree (w4.trans wipe_set_all)).2 j hj).symm
  have ln4 : σ.length = σ4.length := ((wipe_agree (w4.trans wipe_set_all)).1).symm
  cases c with
  | true =>
   simp only [if_true] at h5 ⊢
   refine ⟨With F D, η5, _, R5, h5, fun y η6 w H6 h6 e6 R6 r6 => ?_⟩
   have E6 := E5.trans e6
   have e36 : Ext (L2.wipe σ vs) (wipeP η2 vs) σ4 η6 H2 H6 := (((Ext.same s).trans e4).trans e5).trans e6
   have dk : H6 D = some (.lst us) := e36.keep D _ hd (fun z => by
    obtain ⟨j, p, z1, z2⟩ := z
    obtain ⟨a, q1, q2, q3⟩ := Rb.ow j p z2
    rw [z1] at q1; cases q1
    exact q3 (.inr rfl)) nofun
   have ru6 : Reps K (Oof (With F D) σ4 η6) H6 acc us := (ru.car ((Ext.wipe agw).car (F := With F D))).car (e36.car (F := With F D))
   refine ⟨us, dk, by rw [ru.len]; exact h6.1, acc ++ [y], us ++ [w], wipeP η6 vs, h6.2, (R6.updF (.inr rfl) dk).wipe ln4 ag4, ?_, upd_same, ?_⟩
   ·refine Ext.trans ⟨fun b o hb nb t => ?_, fun b hb => ?_, E6.new, E6.fst⟩ (Ext.wipe ag4)
    ·rw [upd_ne (fun z => by rw [z, hD] at hb; cases hb)]; exact E6.keep b o hb nb t
    ·exact live_upd nofun (E6.live b hb)
   ·have c7 : Car (Oof (With F D) σ4 η6) (Oof (With F D) σ4 η6) H6 (upd H6 D (.lst (us ++ [w]))) := fun b o n hb _ => ⟨by rw [upd_ne (fun z => n (.inl (.inr z)))]; exact hb, n⟩
    exact ((ru6.app (.cons r6 .nil)).car c7).car ((Ext.wipe (H := upd H6 D (.lst (us ++ [w]))) ag4).car (F := With F D))
  | false =>
   simp only [Bool.false_eq_true, if_false] at h5 ⊢
   have e35 : Ext (L2.wipe σ vs) (wipeP η2 vs) σ4 η5 H2 H5 := ((Ext.same s).trans e4).trans e5
   have dk : H5 D = some (.lst us) := e35.keep D _ hd (fun z => by
    obtain ⟨j, p, z1, z2⟩ := z
    obtain ⟨a, q1, q2, q3⟩ := Rb.ow j p z2
    rw [z1] at q1; cases q1
    exact q3 (.inr rfl)) nofun
   exact ⟨acc, us, wipeP η5 vs, h5, R5.wipe ln4 ag4, E5.trans (.wipe ag4), dk, ((ru.car ((Ext.wipe agw).car (F := With F D))).car (e35.car (F := With F D))).car ((Ext.wipe ag4).car (F := With F D))⟩
 ·have e : i = xs.length := by omega
  subst e
  exact .inl ⟨it.2 rfl, k acc η2 D us H2 (fin acc η2 p) (e1.trans e2) R2 hn nF hd ru⟩
theorem zf_lc {scope : Scope} {own : List (Str × Nat)} {ti : TIp} {g : TGp} {tt : TTp}
  (pf : PE X (.ListComp elt [⟨tg, iter, ifs, 0⟩] scope pos) (tLc (upI X.K T ti) (upGw X.K T (own.map (·.2)) g) (upB X.K T tt) (up X.K T te) (own.map (·.2)))) : PE X (.ListComp elt [⟨tg, iter, ifs, 0⟩] scope pos) (upF X.K T (tLcP ti g tt te (own.map (·.2)))) :=
 PE.weak pf fun σ H Q q => lc_weak q
end
abbrev SpP := List PV → (PV → Prop) → Prop
abbrev SpR := Ow → List PV → (PV → Ow → Prop) → Prop
def upSp (K : PySem.W.Frag) (T : List (Addr × Str)) (sp : SpP) : Sp := fun vs H Q _ => ∃ F args P, Trk F H ∧ LamX.Tabs T H ∧ Reps K F H args vs ∧ sp args P ∧ ∀ x v H', P x → Gr H H' → LamX.Tabs T H' → Rep K F H' x v → Q v H'
structure GrB (a : Addr) (H H' : Hp) : Prop where
 keep : ∀ b o, b ≠ a → H b = some o → (∀ ps, o ≠ .tbl ps) → H' b = some o
 live : ∀ b, ¬ Nw H b → ¬ Nw H' b
def upSpR (K : PySem.W.Frag) (T : List (Addr × Str)) (sp : SpR) : Sp := fun vs H Q _ => ∃ F a ws o args P, vs = .ref a :: ws ∧ ¬ F a ∧ Trk F H ∧ LamX.Tabs T H ∧ OwAt K (With F a) H a o ∧ Reps K (With F a) H args ws ∧ sp o args P ∧
 ∀ x o' v H', P x o' → GrB a H H' → LamX.Tabs T H' → OwAt K (With F a) H' a o' → Rep K (With F a) H' x v → Q v H'
def startP (n : Nat) (args : List PV) : EP' := args.map Sl.va ++ List.replicate (n - args.length) .no
section
variable {K : PySem.W.Frag} {T : List (Addr × Str)} {F : Addr → Prop} {H H' : Hp}
theorem start_of {N : List Str} {vs : List V} {i : Nat} {v : V} (h : vs[i]? = some v) : (start N vs)[i]? = some (some v) := by
 have hi : i < vs.length := (List.getElem?_eq_some_iff.mp h).1
 unfold L2.start
 rw [List.getElem?_append_left (by simpa using hi), List.getElem?_map, h]; rfl
theorem startP_va {n : Nat} {args : List PV} {i : Nat} {s : Sl} (h : (startP n args)[i]? = some s) : (∃ x, s = .va x ∧ args[i]? = some x) ∨ s = .no := by
 unfold startP at h
 by_cases hi : i < args.length
 ·rw [List.getElem?_append_left (by simpa using hi), List.getElem?_map] at h
  cases q : args[i]? with
  | none => rw [q] at h; cases h
  | some w => rw [q] at h; cases h; exact .inl ⟨w, rfl, rfl⟩
 ·rw [List.getElem?_append_right (by simpa using hi), List.getElem?_replicate] at h
  split at h
  ·cases h; exact .inr rfl
  ·cases h
theorem startP_noown {n : Nat} {args : List PV} {σ : St} {a : Addr} : ¬ IsOwn σ (startP n args) a := by
 rintro ⟨i, o, h1, h2⟩
 rcases startP_va h2 with ⟨x, e, _⟩ | e <;> cases e
theorem rs_start {N : List Str} {args : List PV} {vs : List V} (tr : Trk F H) (tb : LamX.Tabs T H) (r : Reps K F H args vs) (hl : args.length ≤ N.length) : Rs K T F (start N vs) (startP N.length args) H := by
 have m : ∀ b, Oof F (start N vs) (startP N.length args) b → F b := fun b z => z.elim id fun z => absurd z startP_noown
 refine ⟨?_, fun i x e => ?_, fun i o e => ?_, fun i j o o' a e => ?_, tr, tb⟩
 ·unfold L2.start startP
  simp [r.len]
 ·rcases startP_va e with ⟨y, q, hy⟩ | q
  ·cases q
   obtain ⟨v, h1, h2⟩ := r.get hy
   exact ⟨v, start_of h1, h2.mono m⟩
  ·cases q
 ·rcases startP_va e with ⟨y, q, _⟩ | q <;> cases q
 ·rcases startP_va e with ⟨y, q, _⟩ | q <;> cases q
def startR (n : Nat) (o : Ow) (args : List PV) : EP' := .ow o :: startP (n - 1) args
theorem rs_startR {x : Str} {N : List Str} {a : Addr} {o : Ow} {args : List PV} {ws : List V} (nf : ¬ F a) (tr : Trk F H) (tb : LamX.Tabs T H) (ho : OwAt K (With F a) H a o) (r : Reps K (With F a) H args ws) (hl : args.length ≤ N.length) :
  Rs K T F (start (x :: N) (.ref a :: ws)) (startR (N.length + 1) o args) H ∧ ∀ b, IsOwn (start (x :: N) (.ref a :: ws)) (startR (N.length + 1) o args) b → b = a := by
 have e0 : start (x :: N) (.ref a :: ws) = some (.ref a) :: start N ws := by
  unfold L2.start
  simp
 have e1 : startR (N.length + 1) o args = .ow o :: startP N.length args := by
  unfold startR
  simp
 rw [e0, e1]
 have own : ∀ b, IsOwn (some (V.ref a) :: start N ws) (Sl.ow o :: startP N.length args) b → b = a := by
  rintro b ⟨i, p, h1, h2⟩
  cases i with
  | zero => simp at h1; exact h1.symm
  | succ i =>
   simp at h2
   rcases startP_va h2 with ⟨y, q, _⟩ | q <;> cases q
 have m : ∀ b, Oof F (some (V.ref a) :: start N ws) (Sl.ow o :: startP N.length args) b → With F a b := fun b z => z.elim .inl fun z => .inr (own b z)
 refine ⟨⟨?_, fun i y e => ?_, fun i p e => ?_, fun i j p p' b e1 e2 e3 e4 => ?_, tr, tb⟩, own⟩
 ·unfold L2.start startP
  simp [r.len]
 ·cases i with
  | zero => simp at e
  | succ i =>
   simp at e
   rcases startP_va e with ⟨z, q, hy⟩ | q
   ·cases q
    obtain ⟨v, h1, h2⟩ := r.get hy
    exact ⟨v, by simpa using start_of h1, h2.mono m⟩
   ·cases q
 ·cases i with
  | zero =>
   simp at e
   subst e
   exact ⟨a, rfl, ho.mono m, nf⟩
  | succ i =>
   simp at e
   rcases startP_va e with ⟨z, q, hy⟩ | q <;> cases q
 ·have z : ∀ {i p}, (Sl.ow o :: startP N.length args)[i]? = some (Sl.ow p) → i = 0 := fun {i p} e => by
   cases i with
   | zero => rfl
   | succ i =>
    simp at e
    rcases startP_va e with ⟨z, q, hy⟩ | q <;> cases q
  rw [z e1, z e2]
theorem body_sp {N : List Str} {sp : SpP} {ts : TSp} {vs : List V} {Q : VK} {E : XK} (h : upSp K T sp vs H Q E) (hl : ∀ args P, sp args P → args.length ≤ N.length) (rd : ∀ args P, sp args P → ts { nx := fun _ => P .non, rt := fun x _ => P x } (startP N.length args)) :
  upS K T ts { nx := fun _ H' => Q .non H', rt := Q } (start N vs) H := by
 obtain ⟨F, args, P, tr, tb, r, hs, k⟩ := h
 have R := rs_start (N := N) tr tb r (hl _ _ hs)
 have gr : ∀ {σ' η' H'}, Ext (start N vs) (startP N.length args) σ' η' H H' → Gr H H' := fun e => ⟨fun b o h t => e.keep b o h startP_noown t, e.live⟩
 refine ⟨F, _, _, R, rd args P hs, fun η' σ' H' q e R' => ?_, fun _ _ _ q => q.elim, fun _ _ _ q => q.elim, fun x η' σ' v H' q e R' r' => ?_⟩
 ·exact k _ _ _ q (gr e) R'.tb rep_non
 ·exact k _ _ _ q (gr e) R'.tb (r'.mono fun b z => .inl z)
theorem body_spR {nm : Str} {N : List Str} {sp : SpR} {ts : TSp} {vs : List V} {Q : VK} {E : XK} (h : upSpR K T sp vs H Q E) (hl : ∀ o args P, sp o args P → args.length ≤ N.length)
  (rd : ∀ o args P, sp o args P → ts { nx := fun η' => ∃ o', η'[0]? = some (Sl.ow o') ∧ P .non o', rt := fun x η' => ∃ o', η'[0]? = some (Sl.ow o') ∧ P x o' } (startR (N.length + 1) o args)) :
  upS K T ts { nx := fun _ H' => Q .non H', rt := Q } (start (nm :: N) vs) H := by
 obtain ⟨F, a, ws, o, args, P, rfl, nf, tr, tb, ho, r, hs, k⟩ := h
 obtain ⟨R, own⟩ := rs_startR (x := nm) (N := N) nf tr tb ho r (hl _ _ _ hs)
 have fin : ∀ {η' σ' H' x v}, (∃ o', η'[0]? = some (Sl.ow o') ∧ P x o') → Ext (start (nm :: N) (.ref a :: ws)) (startR (N.length + 1) o args) σ' η' H H' → Rs K T F σ' η' H' → Rep K (Oof F σ' η') H' x v → Q v H' := by
  intro η' σ' H' x v q e R' r'
  obtain ⟨o', e0, p⟩ := q
  obtain ⟨p1, q1, q2⟩ := e.fst o' e0
  obtain ⟨b, s1, s2, s3⟩ := R'.ow 0 o' e0
  have hb : b = a := by
   rw [q2] at s1
   have : (start (nm :: N) (V.ref a :: ws))[0]? = some (some (V.ref a)) := by unfold L2.start; simp
   rw [this] at s1; cases s1; rfl
  subst hb
  have m : ∀ c, With F b c → Oof F σ' η' c := fun c z => z.elim .inl fun z => .inr (by rw [z]; exact ⟨0, o', s1, e0⟩)
  exact k x o' v H' p ⟨fun c u n h t => e.keep c u h (fun z => n (own c z)) t, e.live⟩ R'.tb (s2.mono m) (r'.mono m)
 exact ⟨F, _, _, R, rd o args P hs, fun η' σ' H' q e R' => fin q e R' rep_non, fun _ _ _ q => q.elim, fun _ _ _ q => q.elim, fun x η' σ' v H' q e R' r' => fin q e R' r'⟩
end
section
variable {P : Program} {w : World} {K : PySem.W.Frag} {mg : Str → Option Value} {base : Heap} {T : List (Addr × Str)}
theorem len_sp {ps : List Str} {sp : SpP} (hl : ∀ args P, sp args P → args.length = ps.length) : ∀ vs H Q E, upSp K T sp vs H Q E → vs.length = ps.length := fun vs H Q E h => by
 obtain ⟨F, args, P, _, _, r, hs, _⟩ := h
 rw [r.len, hl _ _ hs]
theorem len_spR {p : Str} {ps : List Str} {sp : SpR} (hl : ∀ o args P, sp o args P → args.length = ps.length) : ∀ vs H Q E, upSpR K T sp vs H Q E → vs.length = (p :: ps).length := fun vs H Q E h => by
 obtain ⟨F, a, ws, o, args, P, rfl, _, _, _, _, r, hs, _⟩ := h
 rw [List.length_cons, List.length_cons, r.len, hl _ _ _ hs]
theorem okP {x qual : Str} {st : Stmt} {f : Addr} {fd : FuncData} {N ps : List Str} {k : Nat} {sp : SpP} (Fn : Fun K x qual st f fd) (S : FnScope N ps (defScope st)) (hl : ∀ args P, sp args P → args.length = ps.length) (hn : ps.length ≤ N.length)
  (hbody : ∀ (cdv : Value) (A : Around) (outer : List Env) (s : Shared) (H : Hp) (E : XK), Room k (A.deeper (envOfC qual (defScope st) s.heap.objs.size f cdv)) →
   ∃ ts, PSs (cxOf CX0 P w K mg base N qual (defScope st) f cdv A outer s H E).nox (defBody st) (upS K T ts) ∧ ∀ args P, sp args P → ts { nx := fun _ => P .non, rt := fun x _ => P x } (startP N.length args)) :
  FnOk P w K mg base CX0 (k + 1) f fd ps (upSp K T sp) := by
 refine Fn.ok S (len_sp hl) fun cdv A outer s H vs Q E hr h => ?_
 obtain ⟨ts, d, rd⟩ := hbody cdv A outer s H E hr
 exact ⟨_, d, body_sp h (fun args P hs => by rw [hl _ _ hs]; exact hn) rd⟩
theorem okR {x qual : Str} {st : Stmt} {f : Addr} {fd : FuncData} {nm : Str} {N ps : List Str} {k : Nat} {sp : SpR} (Fn : Fun K x qual st f fd) (S : FnScope (nm :: N) (nm :: ps) (defScope st)) (hl : ∀ o args P, sp o args P → args.length = ps.length) (hn : ps.length ≤ N.length)
  (hbody : ∀ (cdv : Value) (A : Around) (outer : List Env) (s : Shared) (H : Hp) (E : XK), Room k (A.deeper (envOfC qual (defScope st) s.heap.objs.size f cdv)) →
   ∃ ts, PSs (cxOf CX0 P w K mg base (nm :: N) qual (defScope st) f cdv A outer s H E).nox (defBody st) (upS K T ts) ∧
    ∀ o args P, sp o args P → ts { nx := fun η' => ∃ o', η'[0]? = some (Sl.ow o') ∧ P .non o', rt := fun x η' => ∃ o', η'[0]? = some (Sl.ow o') ∧ P x o' } (startR (N.length + 1) o args)) :
  FnOk P w K mg base CX0 (k + 1) f fd (nm :: ps) (upSpR K T sp) := by
 refine Fn.ok S (len_spR hl) fun cdv A outer s H vs Q E hr h => ?_
 obtain ⟨ts, d, rd⟩ := hbody cdv A outer s H E hr
 exact ⟨_, d, body_spR h (fun o args P hs => by rw [hl _ _ _ hs]; exact hn) rd⟩
structure FnG (P : Program) (w : World) (K : PySem.W.Frag) (mg : Str → Option Value) (base : Heap) (k : Nat) (f : Addr) (fd : FuncData) (ps : List Str) (sp : Sp) : Prop where
 len : ∀ vs H Q E, sp vs H Q E → vs.length = ps.length
 run : ∀ (A : Around) (outer : List Env) (s : Shared) (H : Hp) (args : Args) (us : List Value) (vs : List V) (Q : VK) (E : XK), A.guards = some [] → Room k A → Env0 P w K mg base A outer s H → BindsTo s fd args (ps.zip us) → Vals vs us → sp vs H Q E →
  codeAny (model P w) A (.call (.ref f) args) (CR CX0 outer P w H s Q E) s
theorem okG0 {x qual : Str} {st : Stmt} {f : Addr} {fd : FuncData} {N ps : List Str} {k : Nat} {sp : Sp} (Fn : Fun K x qual st f fd) (S : FnScope N ps (defScope st)) (len : ∀ vs H Q E, sp vs H Q E → vs.length = ps.length)
  (hbody : ∀ (cdv : Value) (A : Around) (outer : List Env) (s : Shared) (H : Hp) (vs : List V) (Q : VK) (E : XK), A.guards = some [] → Room k (A.deeper (envOfC qual (defScope st) s.heap.objs.size f cdv)) → sp vs H Q E →
   ∃ t, PSs (cxOf CX0 P w K mg base N qual (defScope st) f cdv A outer s H E).nox (defBody st) t ∧ t { nx := fun _ H' => Q .non H', rt := Q } (L2.start N vs) H) : FnG P w K mg base (k + 1) f fd ps sp := by
 obtain ⟨oc, od, kV, doc, pm, an, cdv, ct, osl, rfl, lk, hcd⟩ := Fn.ex
 refine ⟨len, fun A outer s H args us vs Q E hg hr e0 hb rv hs => ?_⟩
 refine LamX.run_ofS lk hcd S hr e0 hb rv (len _ _ _ _ hs) fun hr' => ?_
 obtain ⟨t, d, q⟩ := hbody cdv A outer s H vs Q E hg hr' hs
 exact ⟨t, d.nox, q⟩
theorem okGP {x qual : Str} {st : Stmt} {f : Addr} {fd : FuncData} {N ps : List Str} {k : Nat} {sp : SpP} (Fn : Fun K x qual st f fd) (S : FnScope N ps (defScope st)) (hl : ∀ args P, sp args P → args.length = ps.length) (hn : ps.length ≤ N.length)
  (hbody : ∀ (cdv : Value) (A : Around) (outer : List Env) (s : Shared) (H : Hp) (E : XK), A.guards = some [] → Room k (A.deeper (envOfC qual (defScope st) s.heap.objs.size f cdv)) →
   ∃ ts, PSs (cxOf CX0 P w K mg base N qual (defScope st) f cdv A outer s H E).nox (defBody st) (upS K T ts) ∧ ∀ args P, sp args P → ts { nx := fun _ => P .non, rt := fun x _ => P x } (startP N.length args)) :
  FnG P w K mg base (k + 1) f fd ps (upSp K T sp) := by
 refine okG0 Fn S (len_sp hl) fun cdv A outer s H vs Q E hg hr h => ?_
 obtain ⟨ts, d, rd⟩ := hbody cdv A outer s H E hg hr
 exact ⟨_, d, body_sp h (fun args P hs => by rw [hl _ _ hs]; exact hn) rd⟩
theorem okGR {x qual : Str} {st : Stmt} {f : Addr} {fd : FuncData} {nm : Str} {N ps : List Str} {k : Nat} {sp : SpR} (Fn : Fun K x qual st f fd) (S : FnScope (nm :: N) (nm :: ps) (defScope st)) (hl : ∀ o args P, sp o args P → args.length = ps.length) (hn : ps.length ≤ N.length)
  (hbody : ∀ (cdv : Value) (A : Around) (outer : List Env) (s : Shared) (H : Hp) (E : XK), A.guards = some [] → Room k (A.deeper (envOfC qual (defScope st) s.heap.objs.size f cdv)) →
   ∃ ts, PSs (cxOf CX0 P w K mg base (nm :: N) qual (defScope st) f cdv A outer s H E).nox (defBody st) (upS K T ts) ∧
    ∀ o args P, sp o args P → ts { nx := fun η' => ∃ o', η'[0]? = some (Sl.ow o') ∧ P .non o', rt := fun x η' => ∃ o', η'[0]? = some (Sl.ow o') ∧ P x o' } (startR (N.length + 1) o args)) :
  FnG P w K mg base (k + 1) f fd (nm :: ps) (upSpR K T sp) := by
 refine okG0 Fn S (len_spR hl) fun cdv A outer s H vs Q E hg hr h => ?_
 obtain ⟨ts, d, rd⟩ := hbody cdv A outer s H E hg hr
 exact ⟨_, d, body_spR h (fun o args P hs => by rw [hl _ _ _ hs]; exact hn) rd⟩
theorem FnOk.g {k : Nat} {f : Addr} {fd : FuncData} {ps : List Str} {sp : Sp} (F : FnOk P w K mg base CX0 k f fd ps sp) : FnG P w K mg base k f fd ps sp := ⟨F.len, fun A outer s H args us vs Q E _ => F.run A outer s H args us vs Q E⟩
theorem FnG.mono {j k : Nat} {f : Addr} {fd : FuncData} {ps : List Str} {sp : Sp} (F : FnG P w K mg base j f fd ps sp) (h : j ≤ k) : FnG P w K mg base k f fd ps sp := ⟨F.len, fun A outer s H args us vs Q E hg hr => F.run A outer s H args us vs Q E hg (hr.mono h)⟩
end
section
variable {X : Cx} {T : List (Addr × Str)} {a b e o : Expr} {es : List Expr} {te ta tb : TEp} {t : TAp} {tf : TFp} {pos p apos : Pos} {k : Nat} {f C : Addr} {fd : FuncData} {ps : List Str} {sp : SpP} {sr : SpR} {x m : Str}
def tCallP (sp : SpP) (dps : List PV) (t : TAp) : TEp := fun η P => t η fun args η1 => sp (args ++ dps) fun z => P z η1
theorem call_up {K : PySem.W.Frag} {σ : St} {H : Hp} {Q : VK} {E : XK} {dps : List PV} {dvs : List V} (hd : ∀ O H, Reps K O H dps dvs) (q : up K T (tCallP sp dps t) σ H Q) : tCall (upSp K T sp) dvs E (upA K T t) σ H Q := by
 obtain ⟨F, η, P, R, h, k⟩ := q
 refine ⟨F, η, _, R, h, fun args η1 vs H1 h1 e1 R1 r1 => ?_⟩
 exact ⟨Oof F σ η1, _, _, R1.trO, R1.tb, r1.app (hd _ _), h1, fun z v H2 pz g tb rz => k z η1 v H2 pz (e1.trans g.ext) (R1.gr g tb) rz⟩
theorem z_call (Fn : FnOk X.prog X.w X.K X.mg X.base CX0 k f fd ps (upSp X.K T sp)) (hr : Room k X.A) (hg : Gl X x) (hm : X.mg x = some (.ref f)) (hk : PySem.W.keepIn X.K (.ref f) = true) {dvs : List V} {ds : List Value} {dps : List PV} (hb : Binds X.K fd ps ds) (hd : Vals dvs ds) (hp : ∀ O H, Reps X.K O H dps dvs)
  (ha : PA X (e :: es) (upA X.K T t)) (hdb : (x == ("__debug__" : Str)) = false := by decide) (he : starEach (e :: es) X.env = (false, eval e X.env) :: starEach es X.env := by rfl) (hpl : (backTo pos (starEach es X.env)).any (·.1) = false := by rfl) :
  PE X (.Call (.Name x p) (e :: es) [] pos) (up X.K T (tCallP sp dps t)) :=
 PE.weak (pe_call Fn hr hg hm hk hb hd pass0 ha hdb he hpl) fun σ H Q q => call_up hp q
theorem run_g {pins : List (Addr × Obj)} {σ : St} {H : Hp} {s : Shared} {Q : VK} {us : List Value} {vs dvs : List V} {ds : List Value} {S : Sp} (Fn : FnG X.prog X.w X.K X.mg X.base k f fd ps S) (hG : X.A.guards = some []) (hr : Room k X.A) (hb : Binds X.K fd ps ds) (hd : Vals dvs ds)
  (I : L2.Inv X pins σ H s) (r : Vals vs us) (h : S (vs ++ dvs) H Q E0) : wpAny (model X.prog X.w) X.A (call (.ref f) us) (EP X pins σ Q) X.xe s := by
 have rr := r.append hd
 refine wpAny_call (codeAny_mono (Fn.run X.A X.stack s H ⟨us, []⟩ (us ++ ds) (vs ++ dvs) Q E0 hG hr I.env0 (hb s us I.kIn (by rw [← rr.length]; exact Fn.len _ _ _ _ h)) rr h) fun res s' hq => ?_)
 cases res with
 | error er => exact False.elim hq
 | ok fl => cases fl with
  | ret u => exact I.after hq
  | _ => exact False.elim hq
theorem pe_callG {S : Sp} {tv : TA} {dvs : List V} {ds : List Value} (Fn : FnG X.prog X.w X.K X.mg X.base k f fd ps S) (hG : X.A.guards = some []) (hr : Room k X.A) (hg : Gl X x) (hm : X.mg x = some (.ref f)) (hk : PySem.W.keepIn X.K (.ref f) = true) (hb : Binds X.K fd ps ds) (hd : Vals dvs ds)
  (ha : PA X (e :: es) tv) (hdb : (x == ("__debug__" : Str)) = false := by decide) (he : starEach (e :: es) X.env = (false, eval e X.env) :: starEach es X.env := by rfl) (hpl : (backTo pos (starEach es X.env)).any (·.1) = false := by rfl) :
  PE X (.Call (.Name x p) (e :: es) [] pos) (tCall S dvs E0 tv) := by
 constructor
 intro pins s σ H Q I q
 apply wpAny_Call_Name_kw
 apply ld_glob I hg hm _ hdb
 apply PySem.W.callWith_K (h₀ := X.base) I.ok.mod.kin hk _ he hpl
 apply thn (ha.run pos pins s σ H _ I q)
 rintro us s1 ⟨vs, H1, I1, r, q1⟩
 exact ⟨I1.kIn, run_g Fn hG hr hb hd I1 r q1⟩
theorem z_callG (Fn : FnG X.prog X.w X.K X.mg X.base k f fd ps (upSp X.K T sp)) (hG : X.A.guards = some []) (hr : Room k X.A) (hg : Gl X x) (hm : X.mg x = some (.ref f)) (hk : PySem.W.keepIn X.K (.ref f) = true) {dvs : List V} {ds : List Value} {dps : List PV} (hb : Binds X.K fd ps ds) (hd : Vals dvs ds) (hp : ∀ O H, Reps X.K O H dps dvs)
  (ha : PA X (e :: es) (upA X.K T t)) (hdb : (x == ("__debug__" : Str)) = false := by decide) (he : starEach (e :: es) X.env = (false, eval e X.env) :: starEach es X.env := by rfl) (hpl : (backTo pos (starEach es X.env)).any (·.1) = false := by rfl) :
  PE X (.Call (.Name x p) (e :: es) [] pos) (up X.K T (tCallP sp dps t)) :=
 PE.weak (pe_callG Fn hG hr hg hm hk hb hd ha hdb he hpl) fun σ H Q q => call_up hp q
def tCallRP (i : Nat) (sr : SpR) (t : TAp) : TEp := fun η P => (∃ o, η[i]? = some (Sl.ow o)) ∧ t η fun args η1 => match η1[i]? with
 | some (.ow o) => sr o args fun z o' => P z (η1.set i (.ow o'))
 | _ => False
theorem callR_up {K : PySem.W.Frag} {σ : St} {H : Hp} {Q : VK} {E : XK} {i : Nat} (q : up K T (tCallRP i sr t) σ H Q) : tCall (upSpR K T sr) [] E (tCons (tVar i) (upA K T t)) σ H Q := by
 obtain ⟨F, η, P, R, ⟨⟨oo, ho⟩, h⟩, k⟩ := q
 obtain ⟨b, hw, _, _⟩ := R.ow i _ ho
 refine ⟨_, hw, F, η, _, R, h, fun args η1 vs H1 h1 e1 R1 r1 => ?_⟩
 split at h1
 ·rename_i o e
  obtain ⟨a, s, q0, nf⟩ := R1.ow i o e
  rw [hw] at s; cases s
  -- the other own ones and the foreign ones
  let F' : Addr → Prop := fun c => Oof F σ η1 c ∧ c ≠ b
  have m1 : ∀ c, With F' b c → Oof F σ η1 c := fun c z => z.elim (fun z => z.1) fun z => by rw [z]; exact .inr ⟨i, o, hw, e⟩
  have m2 : ∀ c, Oof F σ η1 c → With F' b c := fun c z => by
   by_cases q : c = b
   ·exact .inr q
   ·exact .inl ⟨z, q⟩
  refine ⟨F', b, vs, o, args, _, by simp, fun z => z.2 rfl, fun c z => R1.trO c z.1, R1.tb, q0.mono m1, r1.mono m1, h1, fun z o' v H2 pz g tb ho' rz => ?_⟩
  have c1 : Car (Oof F σ η1) (Oof F σ η1) H1 H2 := fun c u n hc t => ⟨g.keep c u (fun z => n (by rw [z]; exact .inr ⟨i, o, hw, e⟩)) hc t, n⟩
  have oth : ∀ c, c ≠ b → IsOwn σ η1 c → H2 c = H1 c := fun c n z => by
   obtain ⟨j, p, z1, z2⟩ := z
   obtain ⟨c', q1, q2, q3⟩ := R1.ow j p z2
   rw [z1] at q1; cases q1
   cases p with
   | l xs => obtain ⟨us, y, _⟩ := q2; rw [y]; exact g.keep _ _ n y nofun
   | o C fs => obtain ⟨dx, us, y, _⟩ := q2; rw [y]; exact g.keep _ _ n y nofun
   | d kvs => obtain ⟨us, y, _⟩ := q2; rw [y]; exact g.keep _ _ n y nofun
  have R2 := R1.put (o' := o') e hw c1 oth (fun c z => g.live c (R1.tr c z)) tb (ho'.mono m2)
  have E2 : Ext σ η1 σ (η1.set i (.ow o')) H1 H2 := by
   refine ⟨fun c u hc n t => g.keep c u (fun z => n (by rw [z]; exact ⟨i, o, hw, e⟩)) hc t, g.live, fun c z => .inl ((own_put e).mp z), fun p q => ?_⟩
   by_cases z : (0 : Nat) = i
   ·subst z; exact ⟨o, e, rfl⟩
   ·rw [ne_set z] at q; exact ⟨p, q, rfl⟩
  exact k _ _ _ _ pz (e1.trans E2) R2 (rz.mono fun c z => m2 c (Oof_mono (fun b' z => (own_put e).mp z) c z))
 ·cases h1
theorem z_callR {i : Nat} {e0 : Expr} (Fn : FnOk X.prog X.w X.K X.mg X.base CX0 k f fd ps (upSpR X.K T sr)) (hr : Room k X.A) (hg : Gl X x) (hm : X.mg x = some (.ref f)) (hk : PySem.W.keepIn X.K (.ref f) = true) (hb : Binds X.K fd ps [])
  (ha : PA X (e0 :: es) (tCons (tVar i) (upA X.K T t))) (hdb : (x == ("__debug__" : Str)) = false := by decide) (he : starEach (e0 :: es) X.env = (false, eval e0 X.env) :: starEach es X.env := by rfl) (hpl : (backTo pos (starEach es X.env)).any (·.1) = false := by rfl) :
  PE X (.Call (.Name x p) (e0 :: es) [] pos) (up X.K T (tCallRP i sr t)) :=
 PE.weak (pe_call Fn hr hg hm hk hb .nil pass0 ha hdb he hpl) fun σ H Q q => callR_up q
end
section
variable {X : Cx} {T : List (Addr × Str)} {a b e o : Expr} {es : List Expr} {te ta tb : TEp} {t : TAp} {tf : TFp} {pos p apos : Pos} {k : Nat} {f C : Addr} {fd : FuncData} {ps : List Str} {sp : SpP} {sr : SpR} {x m : Str} {st : Stmt} {rest : List Stmt} {t1 : TSp}
abbrev SpF := List PV → (List PV → Prop) → Prop
def upSpF (K : PySem.W.Frag) (T : List (Addr × Str)) (sp : SpF) : Sp := fun vs H Q _ => ∃ F args P, Trk F H ∧ LamX.Tabs T H ∧ Reps K F H args vs ∧ sp args P ∧ ∀ xs a us H', P xs → Gr H H' → LamX.Tabs T H' → Nw H a → H' a = some (.lst us) → Reps K (With F a) H' xs us → Q (.ref a) H'
def upSF (K : PySem.W.Frag) (T : List (Addr × Str)) (tf : TFp) : TS := fun D σ H => ∃ F η P, Rs K T F σ η H ∧ tf η P ∧ ∀ xs η' a us σ' H', P xs η' → Ext σ η σ' η' H H' → Rs K T (With F a) σ' η' H' → Nw H a → H' a = some (.lst us) → Reps K (Oof (With F a) σ' η') H' xs us → D.rt (.ref a) H'
def tSeqFP (t : TSp) (u : TFp) : TFp := fun η P => t { nx := fun η' => u η' P, rt := fun _ _ => False } η
theorem zsf_ret (he : PE X e (upF X.K T tf)) : PSs X [.Return (some e) pos] (upSF X.K T tf) := by
 refine pss_one (PS.weak (ps_ret he) fun D σ H q => ?_)
 obtain ⟨F, η, P, R, h, k⟩ := q
 exact ⟨F, η, P, R, h, fun xs η' a us H' q e R' hn nf hv r => k xs η' a us σ H' q e R' hn hv r⟩
theorem zsf_cons (h1 : PS X st (upS X.K T t1)) (h2 : PSs X rest (upSF X.K T tf)) : PSs X (st :: rest) (upSF X.K T (tSeqFP t1 tf)) := by
 refine PSs.weak (pss_cons h1 h2) fun D σ H q => ?_
 obtain ⟨F, η, P, R, h, k⟩ := q
 refine ⟨F, η, _, R, h, fun η1 σ1 H1 q e1 R1 => ?_, fun _ _ _ q => q.elim, fun _ _ _ q => q.elim, fun _ _ _ _ _ q => q.elim⟩
 refine ⟨F, η1, P, R1, q, fun xs η' a us σ' H' q e R' hn hv r => k xs η' a us σ' H' q (e1.trans e) R' (e1.nw hn) hv r⟩
theorem okF {P : Program} {w : World} {K : PySem.W.Frag} {mg : Str → Option Value} {base : Heap} {x qual : Str} {st : Stmt} {f : Addr} {fd : FuncData} {N ps : List Str} {k : Nat} {sp : SpF} (Fn : Fun K x qual st f fd) (S : FnScope N ps (defScope st)) (hl : ∀ args P, sp args P → args.length = ps.length) (hn : ps.length ≤ N.length)
  (hbody : ∀ (cdv : Value) (A : Around) (outer : List Env) (s : Shared) (H : Hp) (E : XK), Room k (A.deeper (envOfC qual (defScope st) s.heap.objs.size f cdv)) →
   ∃ tf, PSs (cxOf CX0 P w K mg base N qual (defScope st) f cdv A outer s H E).nox (defBody st) (upSF K T tf) ∧ ∀ args P, sp args P → tf (startP N.length args) fun xs _ => P xs) :
  FnOk P w K mg base CX0 (k + 1) f fd ps (upSpF K T sp) := by
 refine Fn.ok S (fun vs H Q E h => ?_) fun cdv A outer s H vs Q E hr h => ?_
 ·obtain ⟨F, args, P, _, _, r, hs, _⟩ := h
  rw [r.len, hl _ _ hs]
 ·obtain ⟨tf, d, rd⟩ := hbody cdv A outer s H E hr
  obtain ⟨F, args, P, tr, tb, r, hs, k⟩ := h
  have R := rs_start (N := N) tr tb r (by rw [hl _ _ hs]; exact hn)
  refine ⟨_, d, F, _, _, R, rd args P hs, fun xs η' a us σ' H' q e R' hn hv r => ?_⟩
  exact k xs a us H' q ⟨fun b o h t => e.keep b o h startP_noown t, e.live⟩ R'.tb hn hv (r.mono fun b z => .inl z)
def tCallFP (sp : SpF) (t : TAp) : TFp := fun η P => t η fun args η1 => sp args fun xs => P xs η1
theorem z_callF {sp : SpF} (Fn : FnOk X.prog X.w X.K X.mg X.base CX0 k f fd ps (upSpF X.K T sp)) (hr : Room k X.A) (hg : Gl X x) (hm : X.mg x = some (.ref f)) (hk : PySem.W.keepIn X.K (.ref f) = true) (hb : Binds X.K fd ps [])
  (ha : PA X (e :: es) (upA X.K T t)) (hdb : (x == ("__debug__" : Str)) = false := by decide) (he : starEach (e :: es) X.env = (false, eval e X.env) :: starEach es X.env := by rfl) (hpl : (backTo pos (starEach es X.env)).any (·.1) = false := by rfl) :
  PE X (.Call (.Name x p) (e :: es) [] pos) (upF X.K T (tCallFP sp t)) := by
 refine PE.weak (pe_call Fn hr hg hm hk hb .nil pass0 ha hdb he hpl) fun σ H Q q => ?_
 obtain ⟨F, η, P, R, h, k⟩ := q
 refine ⟨F, η, _, R, h, fun args η1 vs H1 h1 e1 R1 r1 => ?_⟩
 refine ⟨Oof F σ η1, _, _, R1.trO, R1.tb, by rw [List.append_nil]; exact r1, h1, fun xs a us H2 pz g tb hn hv rz => ?_⟩
 have hn0 : Nw H a := e1.nw hn
 have nF : ¬ F a := fun z => R.tr a z hn0
 have nO : ¬ Oof F σ η1 a := fun z => R1.trO a z hn
 have m : ∀ b, Oof (With F a) σ η1 b → With (Oof F σ η1) a b := fun b z => by
  rcases z with (z | z) | z
  ·exact .inl (.inl z)
  ·exact .inr z
  ·exact .inl (.inr z)
 -- the frame over the grown heap, a among the foreign ones
 have R2 : Rs X.K T F σ η1 H2 := R1.gr g tb
 have c : Car (Oof F σ η1) (Oof (With F a) σ η1) H1 H2 := fun b u n hb t => ⟨g.keep b u hb t, fun z => by
  rcases z with (z | z) | z
  ·exact n (.inl z)
  ·exact hn.no (by rw [← z]; exact hb) t
  ·exact n (.inr z)⟩
 have R3 : Rs X.K T (With F a) σ η1 H2 := by
  refine ⟨R2.len, fun i y e => ?_, fun i o e => ?_, R2.nd, fun b z => ?_, tb⟩
  ·obtain ⟨v, q1, q2⟩ := R1.va i y e
   exact ⟨v, q1, q2.car c⟩
  ·obtain ⟨b, q1, q2, q3⟩ := R1.ow i o e
   refine ⟨b, q1, q2.car c ?_, fun z => z.elim q3 fun z => nO (by rw [← z]; exact .inr ⟨i, o, q1, e⟩)⟩
   cases o with
   | l xs => obtain ⟨vs, q, _⟩ := q2; rw [q]; exact g.keep _ _ q nofun
   | o C fs => obtain ⟨dx, ws, q, _⟩ := q2; rw [q]; exact g.keep _ _ q nofun
   | d kvs => obtain ⟨ws, q, _⟩ := q2; rw [q]; exact g.keep _ _ q nofun
  ·rcases z with z | z
   ·exact R2.tr b z
   ·rw [z]; exact fun q => q.no hv nofun
 exact k xs η1 a us H2 pz (e1.trans g.ext) R3 hn0 nF hv (rz.mono m)
def tCallRFP (tf : TFp) (sr : SpR) (t : TAp) : TEp := fun η P => tf η fun xs η1 => t η1 fun args η2 => sr (.l xs) args fun z _ => P z η2
theorem callRF_up {K : PySem.W.Frag} {σ : St} {H : Hp} {Q : VK} {E : XK} (q : up K T (tCallRFP tf sr t) σ H Q) : tCall (upSpR K T sr) [] E (tCons (upF K T tf) (upA K T t)) σ H Q := by
 obtain ⟨F, η, P, R, h, k⟩ := q
 refine ⟨F, η, _, R, h, fun xs η1 a us H1 h1 e1 R1 hn nf hv r => ⟨With F a, η1, _, R1, h1, fun args η2 vs H2 h2 e2 R2 r2 => ?_⟩⟩
 have na : ¬ IsOwn σ η1 a := fun z => by
  obtain ⟨j, p, z1, z2⟩ := z
  obtain ⟨b, q1, q2, q3⟩ := R1.ow j p z2
  rw [z1] at q1; cases q1
  exact q3 (.inr rfl)
 have na2 : ¬ IsOwn σ η2 a := fun z => by
  obtain ⟨j, p, z1, z2⟩ := z
  obtain ⟨b, q1, q2, q3⟩ := R2.ow j p z2
  rw [z1] at q1; cases q1
  exact q3 (.inr rfl)
 have hv2 : H2 a = some (.lst us) := e2.keep a _ hv na nofun
 have c12 := e2.car (F := With F a)
 let F' : Addr → Prop := Oof F σ η2
 have m1 : ∀ c, With F' a c → Oof (With F a) σ η2 c := fun c z => by
  rcases z with (z | z) | z
  ·exact .inl (.inl z)
  ·exact .inr z
  ·exact .inl (.inr z)
 have m2 : ∀ c, Oof (With F a) σ η2 c → With F' a c := fun c z => by
  rcases z with (z | z) | z
  ·exact .inl (.inl z)
  ·exact .inr z
  ·exact .inl (.inr z)
 refine ⟨F', a, vs, .l xs, args, _, by simp, fun z => z.elim nf na2, fun c z => R2.trO c (m1 c (.inl z)), R2.tb, ⟨us, hv2, (r.car c12).mono m1⟩, r2.mono m1, h2, fun z o' v H3 pz g tb ho' rz => ?_⟩
 have c3 : Car (Oof (With F a) σ η2) (Oof F σ η2) H2 H3 := fun c u n hc t => ⟨g.keep c u (fun q => n (by rw [q]; exact .inl (.inr rfl))) hc t, fun z => n (z.elim (fun z => .inl (.inl z)) .inr)⟩
 have R3 : Rs K T F σ η2 H3 := by
  refine ⟨R2.len, fun i y e => ?_, fun i o e => ?_, R2.nd, fun b z => g.live b (R2.tr b (.inl z)), tb⟩
  ·obtain ⟨v, q1, q2⟩ := R2.va i y e
   exact ⟨v, q1, q2.car c3⟩
  ·obtain ⟨b, q1, q2, q3⟩ := R2.ow i o e
   have nb : b ≠ a := fun z => q3 (.inr z)
   refine ⟨b, q1, q2.car c3 ?_, fun z => q3 (.inl z)⟩
   cases o with
   | l xs => obtain ⟨vs, q, _⟩ := q2; rw [q]; exact g.keep _ _ nb q nofun
   | o C fs => obtain ⟨dx, ws, q, _⟩ := q2; rw [q]; exact g.keep _ _ nb q nofun
   | d kvs => obtain ⟨ws, q, _⟩ := q2; rw [q]; exact g.keep _ _ nb q nofun
 have E2 := e1.trans e2
 refine k _ _ _ _ pz ⟨fun b u hb n t => g.keep b u (fun z => hn.no (by rw [← z]; exact hb) t) (E2.keep b u hb n t) t, fun b hb => g.live b (E2.live b hb), E2.new, E2.fst⟩ R3 (rz.mono fun c z => .inl z)
theorem z_callRFG {e0 : Expr} (Fn : FnG X.prog X.w X.K X.mg X.base k f fd ps (upSpR X.K T sr)) (hG : X.A.guards = some []) (hr : Room k X.A) (hg : Gl X x) (hm : X.mg x = some (.ref f)) (hk : PySem.W.keepIn X.K (.ref f) = true) (hb : Binds X.K fd ps [])
  (ha : PA X (e0 :: es) (tCons (upF X.K T tf) (upA X.K T t))) (hdb : (x == ("__debug__" : Str)) = false := by decide) (he : starEach (e0 :: es) X.env = (false, eval e0 X.env) :: starEach es X.env := by rfl) (hpl : (backTo pos (starEach es X.env)).any (·.1) = false := by rfl) :
  PE X (.Call (.Name x p) (e0 :: es) [] pos) (up X.K T (tCallRFP tf sr t)) :=
 PE.weak (pe_callG Fn hG hr hg hm hk hb .nil ha hdb he hpl) fun σ H Q q => callRF_up q
def putFP (f : Str) (x : PV) : List (Str × PV) → List (Str × PV)
 | [] => [(f, x)]
 | (n, y) :: r => if n = f then (n, x) :: r else (n, y) :: putFP f x r
theorem putF_rep {K : PySem.W.Frag} {O H} {f : Str} {x : PV} {v : V} (h : Rep K O H x v) : ∀ {fs : List (Str × PV)} {ws : List (Str × V)}, RepF K O H fs ws → RepF K O H (putFP f x fs) (putF f v ws)
 | [], _, r => by
  unfold RepF at r; subst r
  unfold putFP putF RepF
  exact ⟨v, [], rfl, h, by unfold RepF; rfl⟩
 | (n, y) :: fs, _, r => by
  unfold RepF at r
  obtain ⟨w, us, rfl, r1, r2⟩ := r
  unfold putFP putF
  by_cases e : n = f
  ·subst e
   rw [if_pos rfl, if_pos rfl]
   unfold RepF
   exact ⟨v, us, rfl, h, r2⟩
  ·rw [if_neg e, if_neg (by exact fun z => e (by first | exact z.symm | exact z))]
   unfold RepF
   exact ⟨w, _, rfl, r1, putF_rep h r2⟩
def tFldSP (C : Addr) (i : Nat) (f : Str) (te : TEp) : TSp := fun D η => te η fun x η1 => match η1[i]? with
 | some (.ow (.o C' fs)) => C' = C ∧ fs.length < 1000 ∧ D.nx (η1.set i (.ow (.o C (putFP f x fs))))
 | _ => False
theorem z_fldS {i : Nat} {f : Str} {value : Expr} {pos' : Pos} (c : Cls X.K C) (n : NoAttr X.K C f) (ho : PE X o (tVar i)) (hv : PE X value (up X.K T te)) (hs : swapsWith value (some (.Attribute o f pos')) pos.line X.env = pure false := by rfl) :
  PS X (.Assign [.Attribute o f pos'] value pos) (upS X.K T (tFldSP C i f te)) := by
 refine PS.weak (ps_fld ho hv hs) fun D σ H q => ?_
 obtain ⟨F, η, D', R, h, k1, k2, k3, k4⟩ := q
 refine ⟨F, η, _, R, h, fun x η1 v H1 h1 e1 R1 r1 => ?_⟩
 split at h1
 ·rename_i C' fs e
  obtain ⟨rfl, hl, h1⟩ := h1
  obtain ⟨a, s, ⟨dx, ws, q1, q2⟩, nf⟩ := R1.ow i _ e
  refine ⟨_, s, a, C', dx, ws, rfl, q1, c, n, by rw [q2.len]; exact hl, ?_⟩
  obtain ⟨W, E⟩ := R1.write (o' := .o C' (putFP f x fs)) (u := .ins C' dx (putF f v ws)) e s q1 nofun nofun nofun fun c => ⟨dx, _, upd_same, putF_rep (r1.car c) (q2.car c)⟩
  exact k1 _ _ _ h1 (e1.trans E) W
 ·cases h1
def tFldP (C : Addr) (f : Str) (te : TEp) : TEp := fun η P => te η fun x η1 => match x with
 | .ins C' fs => C' = C ∧ ∃ y, fs.lookup f = some y ∧ P y η1
 | _ => False
theorem z_fld {f : Str} (c : Cls X.K C) (n : NoAttr X.K C f) (he : PE X e (up X.K T te)) (hb : attributeBase e f X.env (eval e X.env) = eval e X.env := by rfl) : PE X (.Attribute e f pos) (up X.K T (tFldP C f te)) := by
 refine PE.weak (pe_fld he hb) fun σ H Q q => ?_
 obtain ⟨F, η, P, R, h, k⟩ := q
 refine ⟨F, η, _, R, h, fun x η1 v H1 h1 e1 R1 r1 => ?_⟩
 split at h1
 ·obtain ⟨rfl, y, hy, h1⟩ := h1
  obtain ⟨a, dx, ws, rfl, na, q, rr⟩ := r1.ins_
  obtain ⟨w, hw, rw'⟩ := (rr.look f).1 y hy
  exact ⟨a, _, dx, ws, w, rfl, q, c, n, hw, k _ _ _ _ h1 e1 R1 rw'⟩
 ·cases h1
def tMethP (C : Addr) (m : Str) (sp : SpP) (dps : List PV) (ta : TEp) (t : TAp) : TEp := fun η P => ta η fun x η1 => (∃ fs, x = .ins C fs ∧ fs.lookup m = none) ∧ t η1 fun args η2 => sp (x :: (args ++ dps)) fun z => P z η2
theorem meth_up {K : PySem.W.Frag} {σ : St} {H : Hp} {Q : VK} {E : XK} {dps : List PV} {dvs : List V} (hd : ∀ O H, Reps K O H dps dvs) (q : up K T (tMethP C m sp dps ta t) σ H Q) : tMeth C m (upSp K T sp) dvs E (up K T ta) (upA K T t) σ H Q := by
 obtain ⟨F, η, P, R, h, k⟩ := q
 refine ⟨F, η, _, R, h, fun x η1 v H1 h1 e1 R1 r1 => ?_⟩
 obtain ⟨⟨fs, rfl, hm⟩, h1⟩ := h1
 obtain ⟨a, dx, ws, rfl, na, q, rr⟩ := r1.ins_
 refine ⟨a, dx, ws, rfl, q, (rr.look m).2 hm, F, η1, _, R1, h1, fun args η2 vs H2 h2 e2 R2 r2 => ?_⟩
 exact ⟨Oof F σ η2, _, _, R2.trO, R2.tb, .cons (r1.car e2.car) (r2.app (hd _ _)), h2, fun z v H3 pz g tb rz => k z η2 v H3 pz ((e1.trans e2).trans g.ext) (R2.gr g tb) rz⟩
def tPropP (C : Addr) (sp : SpP) (ta : TEp) : TEp := fun η P => ta η fun x η1 => (∃ fs, x = .ins C fs) ∧ sp [x] fun z => P z η1
theorem z_prop {q : Addr} {f' : Str} (he : PE X e (up X.K T ta)) (c : Cls X.K C) (hp : PropOf X.K C f' q f) (Fn : FnOk X.prog X.w X.K X.mg X.base CX0 k f fd ps (upSp X.K T sp)) (hr : Room (k + 1) X.A) (hb : Binds X.K fd ps [])
  (hab : attributeBase e f' X.env (eval e X.env) = eval e X.env := by rfl) : PE X (.Attribute e f' pos) (up X.K T (tPropP C sp ta)) := by
 refine PE.weak (pe_prop he c hp Fn hr hb .nil pass0 hab) fun σ H Q q => ?_
 obtain ⟨F, η, P, R, h, k⟩ := q
 refine ⟨F, η, _, R, h, fun x η1 v H1 h1 e1 R1 r1 => ?_⟩
 obtain ⟨⟨fs, rfl⟩, h1⟩ := h1
 have r1' := r1
 obtain ⟨a, dx, ws, rfl, na, q, rr⟩ := r1.ins_
 exact ⟨a, dx, ws, rfl, q, Oof F σ η1, _, _, R1.trO, R1.tb, .cons r1' .nil, h1, fun z v H3 pz g tb rz => k z η1 v H3 pz (e1.trans g.ext) (R1.gr g tb) rz⟩
end
set_option maxHeartbeats 1000000 in
theorem meets_enum1 {v : Value} {o : Obj} {H : Heap → Prop} (B : Begins v o H) : Meets (Builtin.«enumerate.__new__» ⟨[.type "enumerate", v], []⟩) (fun _ R s => H s.heap ∧
  R (.ok (.ret (.ref (s.heap.push o).objs.size))) { s with heap := (s.heap.push o).push { cls := .type "enumerate", data := .fields #[.none, .bool false, .ref s.heap.objs.size, rawInt 0, .none, .none] } }) := by
 refine .of_wp fun prog w A R s q => ?_
 obtain ⟨hp, g, d, tk, os⟩ := s
 obtain ⟨h1, q⟩ := q
 have hs := sub_enumerate
 have it : ∀ {A' : Around} {E : Value → Shared → Prop} {Q : Value → Shared → Prop}, Q (.ref hp.objs.size) ⟨hp.push o, g, d, tk, os⟩ → wpAny (model prog w) A' (pyIter v) Q E ⟨hp, g, d, tk, os⟩ := fun z => B.iter prog w _ _ ⟨hp, g, d, tk, os⟩ _ h1 z
 wp_walk using it
 refine wpAny_stack_any fun st => wpAny_pure ?_
 split
 ·rename_i c _ _ _ _ _
  cases (c == Value.type "enumerate") <;> (wp_walk using it; exact ⟨_, rfl, q⟩)
 ·wp_walk using it
  exact ⟨_, rfl, q⟩
theorem call_enum1 {prog : Program} {w : World} {A : Around} {E : Value → Shared → Prop} {s : Shared} {v : Value} {o : Obj} {H : Heap → Prop} {Q : Value → Shared → Prop} (B : Begins v o H) (h1 : H s.heap)
  (q : ∀ h', IsEnum h' (s.heap.objs.size + 1) s.heap.objs.size 0 .none → h'.get? s.heap.objs.size = some o → (∀ b u, s.heap.get? b = some u → h'.get? b = some u) → Q (.ref (s.heap.objs.size + 1)) { s with heap := h' }) :
  wpAny (model prog w) A (call (.type "enumerate") [v]) Q E s := by
 refine callType_new F.called_enumerate (by decide) (F.typeCall_enumerate_1 _) (F.newCall_enumerate_1 _) (fun obj => F.args_object_init_2 obj _) F.entry_enumerate_new (meets_enum1 B) ⟨h1, ?_⟩
 have z : (s.heap.push o).objs.size = s.heap.objs.size + 1 := Heap.size_push ..
 show _ ∧ _
 rw [z]
 have he : ((s.heap.push o).push { cls := .type "enumerate", data := .fields #[.none, .bool false, .ref s.heap.objs.size, rawInt 0, .none, .none] }).get? (s.heap.objs.size + 1) = some { cls := .type "enumerate", data := .fields #[.none, .bool false, .ref s.heap.objs.size, rawInt 0, .none, .none] } := by
  rw [← z]; exact Heap.get?_push_size _ rfl
 exact ⟨⟨_, he, rfl⟩, q _ he (Heap.get?_push_of_some _ (Heap.get?_push_size _ B.free)) fun b u e => Heap.get?_push_of_some _ (Heap.get?_push_of_some _ e)⟩
def Itte (K : PySem.W.Frag) (a : Addr) : It where
 go := fun i H => ∃ (xs : List V) (x : V), SqT K H a xs ∧ xs[i]? = some x
 yld := fun i H v H' => ∃ p x, v = .ref p ∧ H p = none ∧ H' = upd H p (.tup [.int (i : Nat), x]) ∧ ∀ xs, SqT K H a xs → xs[i]? = some x
 stop := fun i H => ∃ xs : List V, SqT K H a xs ∧ xs.length = i
def TnE (a e it : Addr) (i : Nat) (h : Heap) : Prop := (∃ old, IsEnum h e it (0 + ((i : Nat) : Int)) old) ∧ h.IsTupleIter it a i ∧ e ≠ it
theorem tne_apart {a e it : Addr} {i : Nat} {h : Heap} {items : Array Value} (t : TnE a e it i h) (p : IsTup h a items) : a ≠ it ∧ e ∉ [it, a] := by
 obtain ⟨⟨old, he⟩, ⟨oi, hi, ci, _⟩, ne⟩ := t
 obtain ⟨o, ho, hc, _⟩ := p
 refine ⟨fun z => ?_, fun z => ?_⟩
 ·rw [z, hi] at ho; cases ho; rw [ci] at hc; simp at hc
 ·rcases List.mem_cons.mp z with z | z
  ·exact ne z
  ·have z : e = a := by simpa using z
   have he' : h.get? e = some _ := he
   rw [z, ho] at he'; cases he'; simp at hc
theorem turn_enumT {P : Program} {w : World} {K : PySem.W.Frag} {elts : List Expr} {kk : Nat} {tpos : Pos} (a e it : Addr) : Turn P w K (.Tuple elts kk tpos) (Itte K a) [e, it] e (TnE a e it) where
 mem := by simp
 obj := fun i h st b hb => by
  obtain ⟨⟨old, he⟩, ⟨oi, hi, ci, di⟩, _⟩ := st
  rcases List.mem_cons.mp hb with z | z
  ·rw [z]; exact ⟨_, he, fun v q => nomatch q⟩
  ·have z : b = it := by simpa using z
   rw [z]; exact ⟨oi, hi, fun v q => by rw [di] at q; cases q⟩
 keep := fun i h h' st k => by
  obtain ⟨⟨old, he⟩, hi, ne⟩ := st
  exact ⟨⟨old, k e (by simp) _ he⟩, hi.at fun o q => k it (by simp) o q, ne⟩
 item := by
  intro X hP hw hK hc i pins s σ H E I hf st hg
  subst hP hw hK
  obtain ⟨xs, x, hq, hx⟩ := hg
  obtain ⟨its, rv, p, hz⟩ := I.tuple hq
  obtain ⟨u, hu, ru⟩ := rv.get hx
  obtain ⟨n1, n2⟩ := tne_apart st p
  have W := WalksT.enumFrom 0 (Draws.tuple (prog := X.prog) (w := X.w) (A := X.A.in1) (I.ok.hd hc) it a n1 its.toArray) e st.2.2 n2 (by simp)
  have hi : i < its.toArray.size := by
   have := (List.getElem?_eq_some_iff.mp hu).1
   simpa using this
  refine W.item i s _ _ hi ⟨st.1, st.2.1, p⟩ fun q vals h' tk ⟨t, y, hy, ev⟩ hq' hT hm hk => ?_
  have ey : y = u := by
   rw [Array.getElem?_eq_getElem hi] at hy
   rw [List.getElem?_eq_getElem (by simpa using hi)] at hu
   simp at hy hu
   rw [← hy, ← hu]
  subst ey
  refine ⟨_, rfl, W.go elts kk tpos i q { s with heap := h', toks := tk } _ _ hm fun h'' st' hk' => ?_⟩
  have nq := W.apart i q h' hm
  have hT2 : IsTup h'' q vals := by
   obtain ⟨o, z1, z2⟩ := hT
   exact ⟨o, hk' q o nq z1, z2⟩
  have kp : ∀ b o, b ∉ [e, it] → s.heap.get? b = some o → h''.get? b = some o := fun b o hb z => hk' b o hb (hk b o hb z)
  have new : ObjOk X.prog X.w (upd H q (.tup [.int (i : Nat), x])) h'' q (.tup [.int (i : Nat), x]) := by
   refine ⟨by show 2 ≤ sizeLine; decide, [.int (0 + (i : Int)) t, y], .cons ⟨t, by rw [Int.zero_add]⟩ (.cons ru .nil), ?_⟩
   rw [ev] at hT2; exact hT2
  have hn : H q = none := I.hok.fresh hq'
  refine ⟨.ref q, _, I.turnedNew (t' := tk) (ch := [e, it]) kp hf hq' new, rfl, ⟨q, x, rfl, hn, rfl, fun ys hy => by rw [I.tuple_inj hy hq]; exact hx⟩, ⟨st'.1, st'.2.1, st.2.2⟩, fun b hb => ?_⟩
  have hb' : b ≠ q := fun z => nq (by rw [← z]; exact hb)
  rw [upd_ne hb']
  exact (hf b hb).1
 done := by
  intro X hP hw hK hc i pins s σ H E I hf st hg
  subst hP hw hK
  obtain ⟨xs, hq, hx⟩ := hg
  obtain ⟨its, rv, p, hz⟩ := I.tuple hq
  obtain ⟨n1, n2⟩ := tne_apart st p
  have W := WalksT.enumFrom 0 (Draws.tuple (prog := X.prog) (w := X.w) (A := X.A.in1) (I.ok.hd hc) it a n1 its.toArray) e st.2.2 n2 (by simp)
  have hl : its.toArray.size = i := by rw [← hx, rv.length]; simp
  refine W.done s _ _ (by rw [hl]; exact ⟨st.1, st.2.1, p⟩) fun h' tk kp => ⟨rfl, ?_⟩
  have nit : ∀ b u, H b = some u → b ∉ [e, it] := fun b u z hb => by
   have := (hf b hb).1
   rw [this] at z; cases z
  exact I.step (g' := s.gens) (d' := s.drawn) (t' := tk) (ch := [e, it]) (fun b hb => ⟨(hf b hb).2.2.2.1, (hf b hb).2.1, (hf b hb).2.2.2.2.1, (hf b hb).2.2.2.2.2⟩) (fun b o _ _ hb z _ => kp b o hb z) (fun b o _ _ hb z _ => ⟨o.slots, kp b o hb z⟩) (fun _ _ _ _ n => n)
   (fun b o hb z => ⟨o, kp b o hb z⟩) (fun _ _ z => z) (fun _ _ _ z => z) (fun b ps z => ⟨#[], by rw [z]; simp⟩) (fun m hm => by
    obtain ⟨o, es, ep, ho, r⟩ := hm
    exact ⟨o, es, ep, kp _ o (fun z => (hf _ z).2.1 rfl) ho, r⟩) (fun b u z => (I.hok b u z).stay (fun c v hc q => kp c v (fun y => by
     rcases hc with hc | hc
     ·exact nit b u z (by rw [← hc]; exact y)
     ·exact nit c _ hc y) q) (fun _ q => q) fun _ _ q => q) I.bare
 self := fun A i s Q E st q => by
  obtain ⟨⟨old, he⟩, _⟩ := st
  exact wpAny_pyIter_enum he q
def iEnumT (K : PySem.W.Frag) (te : TE) : TI := fun σ H R => te σ H fun v H1 => ∃ a xs, [v] = [V.ref a] ∧ SqT K H1 a xs ∧ R (Itte K a) H1
theorem pi_enumT {X : Cx} {e : Expr} {te : TE} {p pos tpos : Pos} {elts : List Expr} {kk : Nat} (hg : Gl X "enumerate") (hm : X.mg "enumerate" = none) (he : PE X e te) (hs : starEach [e] X.env = [(false, eval e X.env)] := by rfl) :
  PI X (.Tuple elts kk tpos) (.Call (.Name "enumerate" p) [e] [] pos) (iEnumT X.K te) := by
 constructor
 intro pins s σ H R I h
 refine Call_ (ld_blt I hg hm boot_enumerate (PyProof.Rows.callWith_type1 (thn ((pa_cons he pa_nil hs).run pos pins s σ H (fun vs H1 => ∃ a xs, vs = [V.ref a] ∧ SqT X.K H1 a xs ∧ R (Itte X.K a) H1) I h) fun us s1 ⟨vs, H1, I1, r1, q1⟩ => ?_) hs rfl))
 obtain ⟨a, xs, rfl, hq, q⟩ := q1
 obtain ⟨u, rfl, ru⟩ := vals1 r1
 cases ru
 obtain ⟨its, rv, p', hz⟩ := I1.tuple hq
 refine call_enum1 (begins_tuple a its.toArray) p' fun h' he hit hk => wpAny_pyIter_enum he ?_
 have I2 : L2.Inv X pins σ H1 { s1 with heap := h' } := I1.kept (t' := s1.toks) hk
 refine ⟨s1.heap.objs.size + 1, [s1.heap.objs.size + 1, s1.heap.objs.size], _, _, H1, rfl, I2, turn_enumT a (s1.heap.objs.size + 1) s1.heap.objs.size, ⟨⟨.none, he⟩, ⟨_, hit, rfl, rfl⟩, Nat.succ_ne_self _⟩, fun b hb => ?_, q⟩
 have hle : s1.heap.objs.size ≤ b := by
  rcases List.mem_cons.mp hb with z | z
  ·rw [z]; exact Nat.le_succ _
  ·have z : b = s1.heap.objs.size := by simpa using z
   rw [z]; exact Nat.le_refl _
 exact I1.fpOk hle (I1.hok.fresh hle)
def enumP (xs : List PV) : List PV := xs.zipIdx.map fun p => .tup [.int (p.2 : Nat), p.1]
section
variable {X : Cx} {T : List (Addr × Str)} {e : Expr} {te : TEp}
def iEnumP (te : TEp) : TIp := fun η P => te η fun x η1 => match x with
 | .tup xs => P (enumP xs) η1
 | _ => False
theorem enumP_get {xs : List PV} {i : Nat} {x : PV} (h : (enumP xs)[i]? = some x) : ∃ y, xs[i]? = some y ∧ x = .tup [.int (i : Nat), y] := by
 unfold enumP at h
 rw [List.getElem?_map, List.getElem?_zipIdx] at h
 cases q : xs[i]? with
 | none => rw [q] at h; cases h
 | some y => rw [q] at h; simp at h; exact ⟨y, rfl, h.symm⟩
theorem it_enumT {K : PySem.W.Frag} {O H} {a : Addr} {xs : List PV} {vs : List V} (t : TupAt K O H a vs) (r : Reps K O H xs vs) : Itr8 K O (Itte K a) (enumP xs) H := fun O' H' tr c _ i => by
 have h' := t.inj_car c
 have r' := r.car c
 refine ⟨fun x e => ?_, fun e => ⟨vs, h', by rw [r'.len]; simpa [enumP] using e⟩⟩
 obtain ⟨y, hy, rfl⟩ := enumP_get e
 obtain ⟨v, e1, r1⟩ := r'.get hy
 refine ⟨⟨vs, v, h', e1⟩, fun w H'' q => ?_⟩
 obtain ⟨p, x', rfl, hp, rfl, hx⟩ := q
 have := hx vs h'
 rw [e1] at this; cases this
 exact ⟨Same.new hp, rep_newT tr hp (.cons rep_int (.cons r1 .nil))⟩
theorem zi_enumT {p pos tpos : Pos} {elts : List Expr} {kk : Nat} (hg : Gl X "enumerate") (hm : X.mg "enumerate" = none) (he : PE X e (up X.K T te)) (hs : starEach [e] X.env = [(false, eval e X.env)] := by rfl) :
  PI X (.Tuple elts kk tpos) (.Call (.Name "enumerate" p) [e] [] pos) (upI X.K T (iEnumP te)) := by
 refine PI.weak (pi_enumT hg hm he hs) fun σ H Q q => ?_
 obtain ⟨F, η, P, R, h, k⟩ := q
 refine ⟨F, η, _, R, h, fun x η1 v H1 h1 e1 R1 r1 => ?_⟩
 split at h1
 ·obtain ⟨a, vs, rfl, t, rr⟩ := r1.tup_
  exact ⟨a, vs, rfl, t.sq, k _ _ _ _ h1 e1 R1 (it_enumT t rr)⟩
 ·cases h1
end
section
variable {prog : Program} {w : World} {A : Around} {E : Value → Shared → Prop} {s : Shared}
def copied (g : Heap) (vs : List Value) : Heap := (g.push (seqObj "list" #[] 0)).update g.objs.size (Obj.mapSeq (· ++ vs.toArray))
theorem collect_tup {l : Addr} {vs : List Value} {Q : List Value → Shared → Prop} (p : IsTup s.heap l vs.toArray) (hz : vs.length ≤ sizeLine) (q : Q vs { s with heap := copied s.heap vs }) :
  wpAny (model prog w) A (collect (.ref l)) Q E s := by
 obtain ⟨ob, hb, cb, k, db⟩ := p
 have old : (s.heap.push (seqObj "list" #[] 0)).get? l = some ob := Heap.get?_push_of_some _ hb
 have new : (s.heap.push (seqObj "list" #[] 0)).get? s.heap.objs.size = some (seqObj "list" #[] 0) := Heap.get?_push_size _ rfl
 have tt : (Value.type "tuple" == Value.type "tuple") = true := by rfl
 have sz : ((#[] : Array Value) ++ vs.toArray).size ≤ sizeLine + 1 := by
  rw [Array.size_append, List.size_toArray]
  simp
  omega
 unfold collect
 refine wpAny_bind
  (wpAny_runValue (codeAny_builtin entry_proto_collect' ?_))
 show wpAny _ _ (do
  again (.builtin "list.__iadd__" ⟨[← newList [], .ref l], []⟩)) _ _ s
 refine wpAny_bind (wpAny_newList
  (wpAny_pure ⟨Code.quiet_builtin _ (by decide +kernel), codeAny_builtin entry_list_iadd' ?_⟩))
 show wpAny _ _
  (Builtin.List.listExtendWith (.ref s.heap.objs.size) (.ref l) (.ref s.heap.objs.size)) _ _
  { s with heap := s.heap.push (seqObj "list" #[] 0) }
 unfold Builtin.List.listExtendWith
 refine wpAny_bind (wpAny_typeOf (T := "tuple") ⟨ob, old, cb⟩ ?_)
 rw [if_pos (by rw [tt, Bool.or_true])]
 refine wpAny_bind (listItems_at old db ?_)
 refine wpAny_bind (listItems_at new rfl ?_)
 rw [if_neg (by simp)]
 refine wpAny_bind (listUpdate_at new rfl ?_ (Nat.zero_le _) sz)
 refine wpAny_pure ?_
 show wpAny (model prog w) A (do
  let ob ← load s.heap.objs.size
  match ob.data with
  | .seq xs _ => pure xs.toList
  | _ => unsupported "internal:collect") Q E { s with heap := copied s.heap vs }
 refine wpAny_bind (wpAny_load (get?_update_seq new _) ?_)
 show wpAny _ _ (pure ((#[] : Array Value) ++ vs.toArray).toList) Q E _
 have e : ((#[] : Array Value) ++ vs.toArray).toList = vs := by simp
 rw [e]
 exact wpAny_pure q
theorem sort_of_tup {l : Addr} {vs : List Value} {kw : List (Str × Value)} {Q : Value → Shared → Prop} (p : IsTup s.heap l vs.toArray) (hz : vs.length ≤ sizeLine) (a1 : argsOk "sorted" ⟨[.ref l], kw⟩) (a2 : ∀ x, argsOk "list.sort" ⟨[.ref x], kw⟩)
  (body : ∀ E' : Value → Shared → Prop, wpAny (model prog w) A.in1.in1 (Builtin.«list.sort» ⟨[.ref (s.heap.objs.size + 1)], kw⟩)
   (fun f s' => f = .done (.ret .none) ∧ Q (.ref (s.heap.objs.size + 1)) s') E' { s with heap := PySem.W.copyHeap s.heap vs }) :
  wpAny (model prog w) A (call (.builtin "sorted") [.ref l] kw) Q E s := by
 have sz : (copied s.heap vs).objs.size = s.heap.objs.size + 1 := by
  unfold copied
  rw [Heap.size_update, size_push']
 refine call_function_entry_kw kind_sorted plain_sorted entry_sorted a1 ?_
 unfold Builtin.«sorted»
 refine wpAny_bind
  (m := checkCount "sorted" 1 1 _) (wpAny_pure ?_)
 refine wpAny_bind (collect_tup p hz ?_)
 refine wpAny_bind (wpAny_newList ?_ hz)
 show wpAny _ _ _ _ _
  { s with heap := PySem.W.copyHeap s.heap vs }
 rw [sz]
 refine wpAny_bind (wpAny_holding
  (wpAny_call_entry_kw slot_list_sort ⟨_, PySem.W.copyHeap_at s.heap vs, rfl⟩ entry_list_sort ?_ (a2 _)))
 show wpAny (model prog w) A.in1.in1
  (Builtin.«list.sort» ⟨[.ref (s.heap.objs.size + 1)], kw⟩) _ _ _
 refine wpAny_mono (body _) (fun f s' z => ?_) fun _ _ e => e
 obtain ⟨e, z⟩ := z
 subst e
 exact ⟨_, rfl, wpAny_pure ⟨_, rfl, z⟩⟩
theorem sorted_key_tup {β : Type} {R : Value → β → Prop} {bs : List β} {l : Addr} {vs : List Value} {f : Value} {kw : List (Str × Value)} {Q : Value → Shared → Prop} (k : β → PyData) (p : IsTup s.heap l vs.toArray) (e : PySem.W.EachIs R vs bs) (hal : PySem.W.AllAlike (bs.map k)) (hk : PySem.W.Sortable (bs.map k)) (hL : bs.length ≤ sizeLine)
  (hu : ∀ x, x ∈ bs → A.units + 2 + (k x).depth < cLine) (a1 : argsOk "sorted" ⟨[.ref l], kw⟩) (a2 : ∀ x, argsOk "list.sort" ⟨[.ref x], kw⟩) (ht : ∀ x, Builtin.«list.sort» ⟨[.ref x], kw⟩ = ksk_tree x f false)
  (turn : ∀ (v : Value) (x : β), R v x → x ∈ bs → ∀ (h : Heap) (tk : Nat), (∀ b o, s.heap.get? b = some o → h.get? b = some o) →
   wpAny (model prog w) A.in1.in1 (call f [v]) (PySem.W.KeyPure (k x) { s with heap := h, toks := tk }) (fun _ _ => False) { s with heap := h, toks := tk })
  (q : ∀ out c h' tk, (∀ b o, s.heap.get? b = some o → h'.get? b = some o) → h'.get? (s.heap.objs.size + 1) = some (seqObj "list" (List.toArray out) c) → out.length = bs.length → PySem.W.EachIs R out (bs.mergeSort (PySem.W.dataLe false k)) →
   Q (.ref (s.heap.objs.size + 1)) { s with heap := h', toks := tk }) :
  wpAny (model prog w) A (call (.builtin "sorted") [.ref l] kw) Q E s := by
 have grown : ∀ {g : Heap}, PySem.W.KeepsBut (s.heap.objs.size + 1) (PySem.W.copyHeap s.heap vs) g → ∀ b o, s.heap.get? b = some o → g.get? b = some o := fun kp b o z =>
  kp b o (Nat.ne_of_lt (Nat.lt_succ_of_lt (Heap.lt_size z))) (PySem.W.copyHeap_old z)
 have hlen : (bs.map k).length = vs.length := by rw [List.length_map]; exact e.length.symm
 refine sort_of_tup p (by rw [e.length]; exact hL) a1 a2 fun E' => ?_
 rw [ht]
 refine PySem.W.keyH_tree (kz := bs.map k) (s := { s with heap := PySem.W.copyHeap s.heap vs })
  (PySem.W.copyHeap_at s.heap vs) hlen (by rw [e.length]; exact hL) hal hk (fun d hd => ?_)
  (PySem.W.keyH_turns (s := { s with heap := PySem.W.copyHeap s.heap vs }) e fun v x hR hx h tk kp => turn v x hR hx h tk (grown kp))
  fun h' tk out c kp hD ko => ⟨rfl, ?_⟩
 ·obtain ⟨x, hx, rfl⟩ := List.mem_map.mp hd
  have := hu x hx
  show A.units + 1 + 1 + _ < _
  omega
 ·exact q out c h' tk (grown kp) hD ((ko.length hlen).trans e.length) (PySem.W.keyedOut_each k ko e)
end
structure Lam1 (nm : Str) (scope : Scope) : Prop where
 kind : scope.kind = .function
 co : scope.isCoroutine = false
 gen : scope.isGenerator = false
 loc : scope.names.lookup nm = some .local
 own : ∀ y ∈ scope.names, y.2 ≠ .cell
section
variable {prog : Program} {w : World} {A : Around} {E : Value → Shared → Prop} {s : Shared}
theorem lam_pair {f r : Addr} {c' : Addr} {name qual nm : Str} {params : Arguments} {scope : Scope} {pm ctv : Value} {items : Array Value} {i j : Int} {ki kj : Nat} {u v : Value} {k1 k2 p1 p2 p3 p4 p5 p6 kt pt} {Q : Value → Shared → Prop}
  (L : Lam1 nm scope) (hroom : A.depth < recursionLimit)
  (ho : s.heap.get? f = some (PySem.W.kla_obj name qual params (.Tuple [.Subscript (.Name nm p1) (.Constant (.int i) k1 p2) p3, .Subscript (.Name nm p4) (.Constant (.int j) k2 p5) p6] kt pt) scope [] pm c' ctv))
  (hcd : s.heap.CodeRec (.ref c') qual) (hlim : s.heap.NoLimit)
  (hb : bindArgs (PySem.W.kla_fn name qual params (.Tuple [.Subscript (.Name nm p1) (.Constant (.int i) k1 p2) p3, .Subscript (.Name nm p4) (.Constant (.int j) k2 p5) p6] kt pt) scope [] pm (.ref c') ctv) ⟨[.ref r], []⟩ = pure [(nm, .ref r)])
  (ht : IsTup s.heap r items) (bi : -(2 ^ 63) ≤ i ∧ i < 2 ^ 63 ∧ seqIndex? i items.size = some ki ∧ items[ki]? = some u) (bj : -(2 ^ 63) ≤ j ∧ j < 2 ^ 63 ∧ seqIndex? j items.size = some kj ∧ items[kj]? = some v)
  (hd : (nm == ("__debug__" : Str)) = false)
  (q : ∀ h' tk a, (∀ b o, s.heap.get? b = some o → h'.get? b = some o) → IsTup h' a #[u, v] → Q (.ref a) { s with heap := h', toks := tk }) :
  wpAny (model prog w) A (call (.ref f) [.ref r]) Q E s := by
 refine wpAny_call (PySem.W.kla_callFunE hroom ho rfl L.co L.gen rfl hcd ?_)
 rw [hb]
 refine wpAny_pure (wpAny_newFunctionEnv L.own (fun y hy => ?_) (fun h1 hns hsb => ⟨hlim.fresh _ hsb, ?_⟩) L.kind)
 ·have e : y = (nm, .ref r) := by simpa using hy
  rw [e]; exact L.loc
 refine PySem.W.kla_codeExpr ?_
 have kp : ∀ b o, s.heap.get? b = some o → h1.get? b = some o := fun b o e => hsb.extBut b o (Nat.ne_of_lt (Heap.lt_size e)) (Heap.get?_push_of_some _ e)
 have ht1 : IsTup h1 r items := ht.keeps kp
 have nml : (fun y => ([(nm, Value.ref r)] : List (Str × Value)).reverse.lookup y) nm = some (.ref r) := by
  show ([(nm, Value.ref r)] : List (Str × Value)).lookup nm = _
  simp
 refine wpAny_Tuple_spliced ?_
 show wpAny _ _ (spliced [(false, _), (false, _)]) _ _ _
 refine Calls.spliced_cons (Subscript_ (wpAny_Name (wpAny_loadName_local L.kind L.loc hns nml ?_) hd))
 refine wpAny_Constant_int (item_tuple (ht1) bi.1 bi.2.1 bi.2.2.1 bi.2.2.2 ?_)
 refine Calls.spliced_cons (Subscript_ (wpAny_Name (wpAny_loadName_local L.kind L.loc hns nml ?_) hd))
 refine wpAny_Constant_int (item_tuple (ht1) bj.1 bj.2.1 bj.2.2.1 bj.2.2.2 ?_)
 refine Calls.spliced_nil ⟨by show 2 ≤ sizeLine; decide, ?_⟩
 exact q _ _ _ (fun b o e => Heap.get?_push_of_some _ (kp b o e)) (IsTup.new _ _)
end
section
variable {X : Cx} {T : List (Addr × Str)} {e : Expr} {te : TEp}
def keyP (i j : Int) : PV → PyData
 | .tup xs => match atI xs i, atI xs j with
  | some a, some b => .tuple [encD a, encD b]
  | _, _ => .none
 | _ => .none
def flatD : PV → Bool
 | .int _ => true
 | .str _ => true
 | _ => false
def tSortLP (i j : Int) (te : TEp) : TEp := fun η P => te η fun x η1 => match x with
 | .tup xs => (∀ y ∈ xs, ∃ ys a b, y = .tup ys ∧ atI ys i = some a ∧ atI ys j = some b ∧ flatD a = true ∧ flatD b = true) ∧ PySem.W.AllAlike (xs.map (keyP i j)) ∧ xs.length ≤ sizeLine ∧ P (.lst (xs.mergeSort (PySem.W.dataLe false (keyP i j)))) η1
 | _ => False
theorem flat_reads {K : PySem.W.Frag} {O H} {h : Heap} {x : PV} {v : V} {u : Value} (f : flatD x = true) (r : Rep K O H x v) (ru : L2.RelV v u) : Reads h u (encD x) [] := by
 cases x with
 | int i =>
  cases r.int_
  obtain ⟨t, rfl⟩ := ru
  exact .int _ _
 | str i =>
  cases r.str_
  obtain ⟨t, rfl⟩ := ru
  exact .str _ _
 | _ => cases f
theorem z_sortL {i j : Int} {nm : Str} {x : Str} {p lpos pos kpos : Pos} {params : Arguments} {scope : Scope} {c P : Addr} {k1 k2 p1 p2 p3 p4 p5 p6 kt pt} {k : Nat}
  (hg : Gl X "sorted") (hm : X.mg "sorted" = none) (he : PE X e (up X.K T te)) (hr : Room k X.A) (L : Lam1 nm scope) (hdef : defaultsOf params X.env = ([], [])) (TB : LamX.TabB X.base X.mg c P) (hcode : X.env.code = .ref c) (hmT : (P, X.env.qual ++ "<lambda>") ∈ T) (huT : ∀ p ∈ T, p.1 = P → p.2 = X.env.qual ++ "<lambda>")
  (hfree : ∀ y ∈ scope.names, y.2 ≠ .free)
  (hcl : cloFrom X.env.cells scope.names [] = [])
  (hb : ∀ (r : Addr) (q : Str) (pm cv ctv : Value), bindArgs (PySem.W.kla_fn "<lambda>" q params (.Tuple [.Subscript (.Name nm p1) (.Constant (.int i) k1 p2) p3, .Subscript (.Name nm p4) (.Constant (.int j) k2 p5) p6] kt pt) scope [] pm cv ctv) ⟨[.ref r], []⟩ = pure [(nm, .ref r)])
  (bi : -(2 ^ 63) ≤ i ∧ i < 2 ^ 63) (bj : -(2 ^ 63) ≤ j ∧ j < 2 ^ 63) (hd : (nm == ("__debug__" : Str)) = false)
  (hs : starEach [e] X.env = [(false, eval e X.env)] := by rfl) (h5 : backTo pos (starEach [e] X.env) = (false, eval e X.env) :: backTo pos (starEach [] X.env) := by rfl) (h6 : (backTo pos (starEach [e] X.env)).any (·.1) = false := by rfl) :
  PE X (.Call (.Name "sorted" p) [e] [⟨some "key", .Lambda params (.Tuple [.Subscript (.Name nm p1) (.Constant (.int i) k1 p2) p3, .Subscript (.Name nm p4) (.Constant (.int j) k2 p5) p6] kt pt) scope lpos, kpos⟩] pos) (up X.K T (tSortLP i j te)) := by
 constructor
 intro pins s σ H Q I h
 obtain ⟨F, η, PP, R, h, kk⟩ := h
 apply wpAny_Call_Name_kw
 refine ld_blt (u := .builtin "sorted") I hg hm (by decide +kernel) ?_
 refine PyProof.Rows.callWith_kw (thn ((pa_cons he pa_nil hs).run pos pins s σ H (fun vs H1 => ∃ xs η1 a us, vs = [V.ref a] ∧ TupAt X.K (Oof F σ η1) H1 a us ∧ Reps X.K (Oof F σ η1) H1 xs us ∧ Rs X.K T F σ η1 H1 ∧ Ext σ η σ η1 H H1 ∧
  (∀ y ∈ xs, ∃ ys a b, y = .tup ys ∧ atI ys i = some a ∧ atI ys j = some b ∧ flatD a = true ∧ flatD b = true) ∧ PySem.W.AllAlike (xs.map (keyP i j)) ∧ xs.length ≤ sizeLine ∧ PP (.lst (xs.mergeSort (PySem.W.dataLe false (keyP i j)))) η1) I ?_) fun us s1 hA => ?_) ?_ ?_ ?_ ?_
 ·refine ⟨F, η, _, R, h, fun x η1 v H1 h1 e1 R1 r1 => ?_⟩
  split at h1
  ·obtain ⟨a, us, rfl, t, rr⟩ := r1.tup_
   exact ⟨_, η1, a, us, rfl, t, rr, R1, e1, h1⟩
  ·cases h1
 ·obtain ⟨vs, H1, I1, r1, xs, η1, a, us', rfl, tA, rr, R1, e1, hx, hal, hz, hP⟩ := hA
  obtain ⟨u0, rfl, ru⟩ := vals1 r1
  cases ru
  show wpAny _ _ (evalAll [do let v ← eval (.Lambda params (.Tuple [.Subscript (.Name nm p1) (.Constant (.int i) k1 p2) p3, .Subscript (.Name nm p4) (.Constant (.int j) k2 p5) p6] kt pt) scope lpos) X.env; standAt pos; pure v]) _ _ s1
  refine wpAny_evalAll_cons (wpAny_bind (LamX.lam_make2 I1 TB hcode hmT huT R1.tb hdef (fun y hy e => absurd e (hfree y hy)) fun f c' pm ctv H2 s2 I2 eN T2 hf hfn hfr hco => wpAny_bind (wpAny_standAt (wpAny_pure (wpAny_evalAll_nil ?_)))))
  have g : Gr H1 H2 := ⟨eN, fun b n q => n fun o ho => Classical.byContradiction fun nt => q.no (eN b o ho fun ps z => nt ⟨ps, z⟩) fun ps z => nt ⟨ps, z⟩⟩
  have R2 := R1.gr g T2
  have c12 : Car (Oof F σ η1) (Oof F σ η1) H1 H2 := g.car
  have tA2 := tA.car c12
  have rr2 := rr.car c12
  obtain ⟨its, rits, p, hz2⟩ := I2.tuple tA2.sq
  rw [hcl] at hf
  obtain ⟨⟨oc, vs, tq, hoc, hdc, hvc⟩, _, _⟩ := I2.hok c' _ hco
  have hu := hr.un
  have hdp := hr.dp
  have hmem : ∀ y ∈ xs, (keyP i j y).depth ≤ 1 ∧ ∃ ys a b, y = .tup ys ∧ atI ys i = some a ∧ atI ys j = some b ∧ flatD a = true ∧ flatD b = true := fun y hy => by
   obtain ⟨ys, a, b, rfl, ha, hb', fa, fb⟩ := hx y hy
   refine ⟨?_, ys, a, b, rfl, ha, hb', fa, fb⟩
   unfold keyP
   simp only [ha, hb']
   cases a <;> first | cases fa | skip
   all_goals (cases b <;> first | cases fb | skip)
   all_goals (simp [encD, toD, PyData.depth, PyData.depthAll])
  refine sorted_key_tup (R := ValR X.K (Oof F σ η1) H2) (bs := xs) (f := .ref f) (keyP i j) p (each_val rr2 rits) hal ?_ hz (fun y hy => by have := (hmem y hy).1; omega) (ksk_s1 _ _) (fun x => ?_) (fun x => ksk_t1 f x) ?_ ?_
  ·refine .inl fun d hd => ?_
   obtain ⟨y, hy, rfl⟩ := List.mem_map.mp hd
   obtain ⟨_, ys, a, b, rfl, ha, hb', _, _⟩ := hmem y hy
   exact ⟨encD a, [encD b], by unfold keyP; simp only [ha, hb']⟩
  ·exact ksk_l1 _ _
  ·rintro v y ⟨w, rw', rep⟩ hy h tk kp
   obtain ⟨_, ys, a, b, rfl, ha, hb', fa, fb⟩ := hmem y hy
   obtain ⟨r, ws, rfl, t, rw2⟩ := rep.tup_
   cases rw'
   obtain ⟨its2, r3, p3, _⟩ := I2.tuple t.sq
   have lens : its2.length = ys.length := by rw [← r3.length]; exact rw2.len
   have item : ∀ {k : Int} {z : PV}, atI ys k = some z → flatD z = true → ∃ kk uu, seqIndex? k its2.toArray.size = some kk ∧ its2.toArray[kk]? = some uu ∧ ∀ h', Reads h' uu (encD z) [] := fun {k z} hk fz => by
    obtain ⟨kk, q1, q2, _⟩ := atI_get hk
    obtain ⟨v', q3, q4⟩ := rw2.get q2
    obtain ⟨uu, q5, q6⟩ := r3.get q3
    refine ⟨kk, uu, by rw [List.size_toArray, lens]; exact q1, by simpa using q5, fun h' => flat_reads fz q4 q6⟩
   obtain ⟨ki, ui, i1, i2, i3⟩ := item ha fa
   obtain ⟨kj, uj, j1, j2, j3⟩ := item hb' fb
   refine lam_pair (c' := c') (items := its2.toArray) L ?_ (kp _ _ hf) ⟨c', oc, vs, tq, rfl, kp _ _ hoc, hdc, hvc⟩ (I2.nolimit.keeps kp) (hb _ _ _ _ _) (p3.keeps kp) ⟨bi.1, bi.2, i1, i2⟩ ⟨bj.1, bj.2, j1, j2⟩ hd fun h' tk' a' kp' ht' => ?_
   ·show X.A.depth < recursionLimit
    omega
   ·refine ⟨h', tk', rfl, kp', ?_⟩
    obtain ⟨o, ho, hc, n, hd'⟩ := ht'
    have e : keyP i j (.tup ys) = .tuple [encD a, encD b] := by unfold keyP; simp only [ha, hb']
    rw [e]
    exact Reads.tuple ho hc hd' (ReadsAll.cons (i3 h') (ReadsAll.cons (j3 h') ReadsAll.nil))
  ·intro out cc h' tk kp hD ho eo
   obtain ⟨ys, r3, r4⟩ := val_each eo
   have fr : H2 (s2.heap.objs.size + 1) = none := I2.hok.fresh (Nat.le_succ _)
   refine ⟨.ref (s2.heap.objs.size + 1), upd H2 (s2.heap.objs.size + 1) (.lst ys), I2.laid (t' := tk) kp (Nat.le_succ _) ⟨?_, out, cc, r4, hD⟩, rfl, ?_⟩
   ·rw [r3.len, List.length_mergeSort]; exact hz
   ·exact kk _ η1 _ _ hP ((e1.trans g.ext).trans (.same (Same.new fr))) (R2.same (Same.new fr)) (rep_newL R2.trO fr r3)
 ·exact h5
 ·exact h6
 all_goals rfl
end
inductive Ar where
 | v (x : PV) | fo (o : Ow)
abbrev Ar.f (xs : List PV) : Ar := .fo (.l xs)
abbrev TArp := EP' → (List Ar → EP' → Prop) → Prop
def ArOk (K : PySem.W.Frag) (O : Addr → Prop) (H : Hp) : List Ar → List V → Prop
 | [], vs => vs = []
 | .v x :: ars, vs => ∃ v us, vs = v :: us ∧ Rep K O H x v ∧ ArOk K O H ars us
 | .fo o :: ars, vs => ∃ a us, vs = .ref a :: us ∧ OwAt K O H a o ∧ ArOk K O H ars us
def ArNew (F : Addr → Prop) (H : Hp) : List Ar → List V → Prop
 | .v _ :: ars, _ :: us => ArNew F H ars us
 | .fo _ :: ars, .ref a :: us => Nw H a ∧ ¬ F a ∧ ArNew (With F a) H ars us
 | [], [] => True
 | _, _ => False
def FA (F : Addr → Prop) : List Ar → List V → Addr → Prop
 | .v _ :: ars, _ :: us => FA F ars us
 | .fo _ :: ars, .ref a :: us => FA (With F a) ars us
 | _, _ => F
def upAr (K : PySem.W.Frag) (T : List (Addr × Str)) (tp : TArp) : TA := fun σ H Q => ∃ F η P, Rs K T F σ η H ∧ tp η P ∧ ∀ ars η' vs H', P ars η' → Ext σ η σ η' H H' → Rs K T (FA F ars vs) σ η' H' → ArNew F H ars vs → ArOk K (Oof (FA F ars vs) σ η') H' ars vs → Q vs H'
section
variable {K : PySem.W.Frag} {T : List (Addr × Str)} {F : Addr → Prop} {σ : St} {η : EP'} {H H' : Hp}
theorem ArOk.mono {O O' : Addr → Prop} (h : ∀ a, O' a → O a) : ∀ {ars : List Ar} {vs : List V}, ArOk K O H ars vs → ArOk K O' H ars vs
 | [], _, r => r
 | .v x :: ars, _, r => by
  obtain ⟨v, us, rfl, r1, r2⟩ := r
  exact ⟨v, us, rfl, r1.mono h, r2.mono h⟩
 | .fo o :: ars, _, r => by
  obtain ⟨a, us, rfl, r1, r2⟩ := r
  exact ⟨a, us, rfl, r1.mono h, r2.mono h⟩
theorem FA_with {a b : Addr} : ∀ {ars : List Ar} {vs : List V} {F : Addr → Prop}, FA (With F a) ars vs b ↔ FA F ars vs b ∨ b = a
 | [], [], F => Iff.rfl
 | [], _ :: _, F => Iff.rfl
 | .v _ :: ars, _ :: us, F => FA_with (ars := ars) (vs := us)
 | .v _ :: _, [], F => Iff.rfl
 | .fo _ :: ars, .ref c :: us, F => by
  show FA (With (With F a) c) ars us b ↔ FA (With F c) ars us b ∨ b = a
  rw [FA_with, FA_with, FA_with]
  constructor
  ·rintro ((h | h) | h)
   ·exact .inl (.inl h)
   ·exact .inr h
   ·exact .inl (.inr h)
  ·rintro ((h | h) | h)
   ·exact .inl (.inl h)
   ·exact .inr h
   ·exact .inl (.inr h)
 | .fo _ :: _, [], F => Iff.rfl
 | .fo _ :: _, .non :: _, F => Iff.rfl
 | .fo _ :: _, .bl _ :: _, F => Iff.rfl
 | .fo _ :: _, .int _ :: _, F => Iff.rfl
 | .fo _ :: _, .str _ :: _, F => Iff.rfl
 | .fo _ :: _, .byt _ :: _, F => Iff.rfl
 | .fo _ :: _, .flt _ :: _, F => Iff.rfl
 | .fo _ :: _, .ty _ :: _, F => Iff.rfl
theorem ArNew.mono : ∀ {ars : List Ar} {vs : List V} {F F' : Addr → Prop}, (∀ a, F' a → F a) → ArNew F H ars vs → ArNew F' H ars vs
 | [], [], _, _, _, _ => trivial
 | [], _ :: _, _, _, _, h => h.elim
 | .v _ :: ars, _ :: us, _, _, m, h => ArNew.mono (ars := ars) (vs := us) m h
 | .v _ :: _, [], _, _, _, h => h.elim
 | .fo _ :: ars, .ref c :: us, _, _, m, h => ⟨h.1, fun z => h.2.1 (m c z), ArNew.mono (ars := ars) (vs := us) (fun a z => z.elim (fun z => .inl (m a z)) .inr) h.2.2⟩
 | .fo _ :: _, [], _, _, _, h => h.elim
 | .fo _ :: _, .non :: _, _, _, _, h => h.elim
 | .fo _ :: _, .bl _ :: _, _, _, _, h => h.elim
 | .fo _ :: _, .int _ :: _, _, _, _, h => h.elim
 | .fo _ :: _, .str _ :: _, _, _, _, h => h.elim
 | .fo _ :: _, .byt _ :: _, _, _, _, h => h.elim
 | .fo _ :: _, .flt _ :: _, _, _, _, h => h.elim
 | .fo _ :: _, .ty _ :: _, _, _, _, h => h.elim
theorem FA_not {a : Addr} : ∀ {ars : List Ar} {vs : List V} {F : Addr → Prop}, ArNew (With F a) H ars vs → ¬ F a → ¬ FA F ars vs a
 | [], [], _, _, n, h => n h
 | [], _ :: _, _, h, _, _ => h.elim
 | .v _ :: ars, _ :: us, _, h, n, z => FA_not (ars := ars) (vs := us) h n z
 | .v _ :: _, [], _, h, _, _ => h.elim
 | .fo _ :: ars, .ref c :: us, F, h, n, z => by
  have z' : FA (With F c) ars us a := z
  have hc : ¬ With F a c := h.2.1
  rcases FA_with.mp z' with z' | z'
  ·exact FA_not (ars := ars) (vs := us) (F := F) (h.2.2.mono fun b q => .inl q) n z'
  ·exact hc (.inr z'.symm)
 | .fo _ :: _, [], _, h, _, _ => h.elim
 | .fo _ :: _, .non :: _, _, h, _, _ => h.elim
 | .fo _ :: _, .bl _ :: _, _, h, _, _ => h.elim
 | .fo _ :: _, .int _ :: _, _, h, _, _ => h.elim
 | .fo _ :: _, .str _ :: _, _, h, _, _ => h.elim
 | .fo _ :: _, .byt _ :: _, _, h, _, _ => h.elim
 | .fo _ :: _, .flt _ :: _, _, h, _, _ => h.elim
 | .fo _ :: _, .ty _ :: _, _, h, _, _ => h.elim
def storesV : List Nat → List V → St → St
 | i :: is, v :: vs, σ => storesV is vs (σ.set i (some v))
 | _, _, σ => σ
def storesP : List Nat → List Ar → EP' → EP'
 | i :: is, .v x :: ars, η => storesP is ars (η.set i (.va x))
 | i :: is, .fo o :: ars, η => storesP is ars (η.set i (.ow o))
 | _, _, η => η
def okIx (n : Nat) : List Nat → List Ar → Prop
 | i :: is, .v _ :: ars => okIx n is ars
 | i :: is, .fo _ :: ars => 0 ≠ i ∧ i < n ∧ okIx n is ars
 | [], [] => True
 | _, _ => False
theorem stores_ok {σ0 : St} {η0 : EP'} {H0 : Hp} : ∀ {is : List Nat} {ars : List Ar} {vs : List V} {F : Addr → Prop} {σ : St} {η : EP'}, okIx η.length is ars → Rs K T (FA F ars vs) σ η H → Ext σ0 η0 σ η H0 H → ArNew F H0 ars vs → ArOk K (Oof (FA F ars vs) σ η) H ars vs →
  Rs K T F (storesV is vs σ) (storesP is ars η) H ∧ Ext σ0 η0 (storesV is vs σ) (storesP is ars η) H0 H
 | [], [], vs, F, σ, η, _, R, E, N, A => by
  have A' : vs = [] := A
  subst A'
  exact ⟨R, E⟩
 | i :: is, .v x :: ars, vs, F, σ, η, hi, R, E, N, A => by
  obtain ⟨v, us, rfl, r, A⟩ := A
  have R' : Rs K T (FA F ars us) σ η H := R
  have m : ∀ a, Oof (FA F ars us) (σ.set i (some v)) (η.set i (.va x)) a → Oof (FA F ars us) σ η a := Oof_mono fun b z => own_set z
  exact stores_ok (is := is) (ars := ars) (vs := us) (F := F) (by rw [List.length_set]; exact hi) (R'.setv r) (E.trans .setv) N (A.mono m)
 | i :: is, .fo o :: ars, vs, F, σ, η, hi, R, E, N, A => by
  obtain ⟨a, us, rfl, r, A⟩ := A
  obtain ⟨h0, hl, hi⟩ := hi
  obtain ⟨n1, n2, N⟩ := N
  have R0 : Rs K T (FA (With F a) ars us) σ η H := R
  have nf : ¬ FA F ars us a := FA_not N n2
  have R1 : Rs K T (With (FA F ars us) a) σ η H := R0.shrink fun b z => FA_with.mpr z
  have m0 : ∀ b, Oof (With (FA F ars us) a) σ η b → Oof (FA (With F a) ars us) σ η b := fun b z => z.elim (fun z => .inl (FA_with.mpr z)) .inr
  have R2 := R1.seto (i := i) (o := o) nf (r.mono m0) hl
  have m1 : ∀ b, Oof (FA F ars us) (σ.set i (some (.ref a))) (η.set i (.ow o)) b → Oof (FA (With F a) ars us) σ η b := by
   rintro b (z | ⟨j, p, z1, z2⟩)
   ·exact .inl (FA_with.mpr (.inl z))
   ·by_cases hj : j = i
    ·subst hj
     cases at_set z1
     exact .inl (FA_with.mpr (.inr rfl))
    ·rw [ne_set hj] at z1 z2
     exact .inr ⟨j, p, z1, z2⟩
  exact stores_ok (is := is) (ars := ars) (vs := us) (F := F) (by rw [List.length_set]; exact hi) R2 (E.seto n1 h0) (N.mono fun b z => .inl z) (A.mono m1)
 | [], .v _ :: _, _, _, _, _, h, _, _, _, _ => h.elim
 | [], .fo _ :: _, _, _, _, _, h, _, _, _, _ => h.elim
 | _ :: _, [], _, _, _, _, h, _, _, _, _ => h.elim
end
section
variable {X : Cx} {T : List (Addr × Str)} {e a b c : Expr} {es : List Expr} {te : TEp} {tf : TFp} {tr : TArp} {pos : Pos}
def tNilAr : TArp := fun η P => P [] η
def tConsV (te : TEp) (t : TArp) : TArp := fun η P => te η fun x η1 => t η1 fun ars η2 => P (.v x :: ars) η2
def tConsF (tf : TFp) (t : TArp) : TArp := fun η P => tf η fun xs η1 => t η1 fun ars η2 => P (.f xs :: ars) η2
theorem zr_nil : PA X [] (upAr X.K T tNilAr) := by
 refine PA.weak pa_nil fun σ H Q q => ?_
 obtain ⟨F, η, P, R, h, k⟩ := q
 exact k [] η [] H h .refl R trivial rfl
theorem new_back {F : Addr → Prop} {σ : St} {η η1 : EP'} {H H1 : Hp} (e : Ext σ η σ η1 H H1) : ∀ {ars : List Ar} {vs : List V} {F : Addr → Prop}, ArNew F H1 ars vs → ArNew F H ars vs
 | [], [], _, _ => trivial
 | [], _ :: _, _, h => h.elim
 | .v _ :: ars, _ :: us, _, h => new_back e (F := F) (ars := ars) (vs := us) h
 | .v _ :: _, [], _, h => h.elim
 | .fo _ :: ars, .ref c :: us, _, h => ⟨e.nw h.1, h.2.1, new_back e (F := F) (ars := ars) (vs := us) h.2.2⟩
 | .fo _ :: _, [], _, h => h.elim
 | .fo _ :: _, .non :: _, _, h => h.elim
 | .fo _ :: _, .bl _ :: _, _, h => h.elim
 | .fo _ :: _, .int _ :: _, _, h => h.elim
 | .fo _ :: _, .str _ :: _, _, h => h.elim
 | .fo _ :: _, .byt _ :: _, _, h => h.elim
 | .fo _ :: _, .flt _ :: _, _, h => h.elim
 | .fo _ :: _, .ty _ :: _, _, h => h.elim
theorem car_FA {F G : Addr → Prop} {σ : St} {η η1 : EP'} {H H1 : Hp} (e : Ext σ η σ η1 H H1) (hn : ∀ b, G b → F b ∨ Nw H b) : Car (Oof F σ η) (Oof G σ η1) H H1 := fun a o n h t => by
 obtain ⟨k, n'⟩ := e.car (F := F) a o n h t
 refine ⟨k, fun z => ?_⟩
 rcases z with z | z
 ·rcases hn a z with z | z
  ·exact n (.inl z)
  ·exact z.no h t
 ·exact n' (.inr z)
theorem FA_new {H : Hp} : ∀ {ars : List Ar} {vs : List V} {F : Addr → Prop} {b : Addr}, ArNew F H ars vs → FA F ars vs b → F b ∨ Nw H b
 | [], [], _, _, _, h => .inl h
 | [], _ :: _, _, _, h, _ => h.elim
 | .v _ :: ars, _ :: us, _, _, h, z => FA_new (ars := ars) (vs := us) h z
 | .v _ :: _, [], _, _, h, _ => h.elim
 | .fo _ :: ars, .ref c :: us, F, b, h, z => by
  rcases FA_new (ars := ars) (vs := us) (F := With F c) h.2.2 z with (q | q) | q
  ·exact .inl q
  ·rw [q]; exact .inr h.1
  ·exact .inr q
 | .fo _ :: _, [], _, _, h, _ => h.elim
 | .fo _ :: _, .non :: _, _, _, h, _ => h.elim
 | .fo _ :: _, .bl _ :: _, _, _, h, _ => h.elim
 | .fo _ :: _, .int _ :: _, _, _, h, _ => h.elim
 | .fo _ :: _, .str _ :: _, _, _, h, _ => h.elim
 | .fo _ :: _, .byt _ :: _, _, _, h, _ => h.elim
 | .fo _ :: _, .flt _ :: _, _, _, h, _ => h.elim
 | .fo _ :: _, .ty _ :: _, _, _, h, _ => h.elim
theorem zr_v (he : PE X e (up X.K T te)) (hr : PA X es (upAr X.K T tr)) (hs : starEach (e :: es) X.env = (false, eval e X.env) :: starEach es X.env := by rfl) : PA X (e :: es) (upAr X.K T (tConsV te tr)) := by
 refine PA.weak (pa_cons he hr hs) fun σ H Q q => ?_
 obtain ⟨F, η, P, R, h, k⟩ := q
 refine ⟨F, η, _, R, h, fun x η1 v H1 h1 e1 R1 r1 => ⟨F, η1, _, R1, h1, fun ars η2 vs H2 h2 e2 R2 N2 A2 => ?_⟩⟩
 exact k (.v x :: ars) η2 (v :: vs) H2 h2 (e1.trans e2) R2 (show ArNew F H ars vs from new_back (F := F) e1 N2) ⟨v, vs, rfl, r1.car (car_FA e2 fun b z => FA_new N2 z), A2⟩
theorem zr_f (he : PE X e (upF X.K T tf)) (hr : PA X es (upAr X.K T tr)) (hs : starEach (e :: es) X.env = (false, eval e X.env) :: starEach es X.env := by rfl) : PA X (e :: es) (upAr X.K T (tConsF tf tr)) := by
 refine PA.weak (pa_cons he hr hs) fun σ H Q q => ?_
 obtain ⟨F, η, P, R, h, k⟩ := q
 refine ⟨F, η, _, R, h, fun xs η1 a ws H1 h1 e1 R1 hn nf hv r1 => ⟨With F a, η1, _, R1, h1, fun ars η2 vs H2 h2 e2 R2 N2 A2 => ?_⟩⟩
 have na : ¬ IsOwn σ η1 a := fun z => by
  obtain ⟨j, p, z1, z2⟩ := z
  obtain ⟨b, q1, q2, q3⟩ := R1.ow j p z2
  rw [z1] at q1; cases q1
  exact q3 (.inr rfl)
 exact k (.f xs :: ars) η2 (.ref a :: vs) H2 h2 (e1.trans e2) R2 ⟨hn, nf, new_back (F := F) e1 N2⟩ ⟨a, vs, rfl, ⟨ws, e2.keep a _ hv na nofun, r1.car (car_FA e2 fun b z => FA_new N2 z)⟩, A2⟩
def tParP (is : List Nat) (tr : TArp) : TSp := fun D η => tr η fun ars η1 => ars.length = is.length ∧ okIx η1.length is ars ∧ D.nx (storesP is ars η1)
theorem ArOk.len {K : PySem.W.Frag} {O H} : ∀ {ars : List Ar} {vs : List V}, ArOk K O H ars vs → vs.length = ars.length
 | [], _, r => by
  have r' : _ = [] := r
  rw [r']; rfl
 | .v x :: ars, _, r => by
  obtain ⟨v, us, rfl, r1, r2⟩ := r
  simp [r2.len]
 | .fo o :: ars, _, r => by
  obtain ⟨a, us, rfl, r1, r2⟩ := r
  simp [r2.len]
theorem par_up {K : PySem.W.Frag} {is : List Nat} {D : Ends} {σ : St} {H : Hp} (q : upS K T (tParP is tr) D σ H) : upAr K T tr σ H (fun vs H1 => vs.length = is.length ∧ D.nx (storesV is vs σ) H1) := by
 obtain ⟨F, η, D', R, h, k1, k2, k3, k4⟩ := q
 refine ⟨F, η, _, R, h, fun ars η1 vs H1 h1 e1 R1 N A => ⟨by rw [A.len]; exact h1.1, ?_⟩⟩
 obtain ⟨R2, E2⟩ := stores_ok (is := is) h1.2.1 R1 e1 N A
 exact k1 _ _ _ h1.2.2 E2 R2
theorem z_par2 {i j : Nat} {st : Stmt} {K0 : PySem.W.Frag} (hK : X.K = K0) (pf : PS X st (tPar i j (upAr K0 T tr))) : PS X st (upS K0 T (tParP [i, j] tr)) := by
 refine PS.weak pf fun D σ H q => ?_
 obtain ⟨F, η, P, R, h, k⟩ := par_up q
 refine ⟨F, η, P, R, h, fun ars η' vs H' h1 e1 R1 N A => ?_⟩
 obtain ⟨hl, hd⟩ := k ars η' vs H' h1 e1 R1 N A
 match vs, hl, hd with
 | [v, w], _, hd => exact ⟨v, w, rfl, hd⟩
theorem z_par3 {i j l : Nat} {st : Stmt} {K0 : PySem.W.Frag} (hK : X.K = K0) (pf : PS X st (tPar3 i j l (upAr K0 T tr))) : PS X st (upS K0 T (tParP [i, j, l] tr)) := by
 refine PS.weak pf fun D σ H q => ?_
 obtain ⟨F, η, P, R, h, k⟩ := par_up q
 refine ⟨F, η, P, R, h, fun ars η' vs H' h1 e1 R1 N A => ?_⟩
 obtain ⟨hl, hd⟩ := k ars η' vs H' h1 e1 R1 N A
 match vs, hl, hd with
 | [u, v, w], _, hd => exact ⟨u, v, w, rfl, hd⟩
end
section
variable {X : Cx} {T : List (Addr × Str)} {a b e o : Expr} {es : List Expr} {te ta tb : TEp} {t : TAp} {tf : TFp} {pos p apos : Pos} {x : Str}
theorem z_gi {i : Int} (hg : Gl X x) (h : ∃ u, X.mg x = some u ∧ RelV (.int i) u) (hd : (x == ("__debug__" : Str)) = false := by decide) : PE X (.Name x pos) (up X.K T (tConP (.int i))) := by
 obtain ⟨u, hm, r⟩ := h
 exact z_con (pe_glob hg hm r hd) fun _ _ => by unfold Rep; rfl
theorem z_gs {i : Str} (hg : Gl X x) (h : ∃ u, X.mg x = some u ∧ RelV (.str i) u) (hd : (x == ("__debug__" : Str)) = false := by decide) : PE X (.Name x pos) (up X.K T (tConP (.str i))) := by
 obtain ⟨u, hm, r⟩ := h
 exact z_con (pe_glob hg hm r hd) fun _ _ => by unfold Rep; rfl
theorem z_gc {C : Addr} (hg : Gl X x) (hm : X.mg x = some (.ref C)) (hd : (x == ("__debug__" : Str)) = false := by decide) : PE X (.Name x pos) (up X.K T (tConP (.raw (.ref C)))) := z_con (pe_glob (v := .ref C) hg hm rfl hd) fun _ _ => by unfold Rep; rfl
theorem z_ty {id : String} (hg : Gl X x) (hm : X.mg x = none) (hv : bootBuiltins x = some (.type id)) (hn : x ≠ "__name__" := by decide) (hd : (x == ("__debug__" : Str)) = false := by decide) : PE X (.Name x pos) (up X.K T (tConP (.raw (.ty id)))) := z_con (pe_bltn (v := .ty id) hg hm hv rfl hn hd) fun _ _ => by unfold Rep; rfl
def tNegP (te : TEp) : TEp := fun η P => te η fun x η1 => match x with | .int i => P (.int (-i)) η1 | _ => False
theorem zgs_cons1 {t : TGp} {u : TGsp} (h1 : PG X e (upG X.K T t)) (h2 : PGs X es (upGs X.K T u)) (hs : (assignEach (e :: es) X.env).map (·.2) = assign e X.env :: (assignEach es X.env).map (·.2) := by rfl) : PGs X (e :: es) (upGs X.K T (gConsP t u)) := zgs_cons h1 h2 (pgs_cons h1 h2 hs)
theorem z_chain1 {c : Expr} {tc : TEp} {op op' : CmpOp} {r r' : R2p} (ho : OpR X (compareOp op) (r2 X.K r)) (ho' : OpR X (compareOp op') (r2 X.K r')) (ha : PE X a (up X.K T ta)) (hb : PE X b (up X.K T tb)) (hc : PE X c (up X.K T tc))
  (hm : lastMarks [op, op'] [b, c] = false := by with_unfolding_all rfl) : PE X (.Compare a [op, op'] [b, c] pos) (up X.K T (tChainP r r' ta tb tc)) := z_chain ho ho' ha hb hc (pe_chain ho ho' ha hb hc hm)
theorem zt_chain {c : Expr} {tc : TEp} {op op' : CmpOp} {r r' : R2p} (ho : OpR X (compareOp op) (r2 X.K r)) (ho' : OpR X (compareOp op') (r2 X.K r')) (ha : PE X a (up X.K T ta)) (hb : PE X b (up X.K T tb)) (hc : PE X c (up X.K T tc))
  (hm : lastMarks [op, op'] [b, c] = false := by with_unfolding_all rfl) : PT X (.Compare a [op, op'] [b, c] pos) (upB X.K T (tBlP (tChainP r r' ta tb tc))) := by
 refine PT.weak (pt_chain ho ho' ha hb hc hm) fun σ H Q q => ?_
 obtain ⟨F, η, P, R, h, k⟩ := q
 refine ⟨F, η, _, R, h, fun x η1 v H1 h1 e1 R1 r1' => ⟨F, η1, _, R1, h1, fun y η2 w H2 h2 e2 R2' rw' => ?_⟩⟩
 refine ⟨Oof F σ η2, x, y, _, R2'.trO, r1'.car e2.car, rw', h2, fun z u H3 pz s rz => ?_⟩
 obtain ⟨kk, rfl, pz⟩ := pz
 unfold Rep at rz
 refine ⟨kk, rz, ?_⟩
 cases kk with
 | false => exact ⟨_, rfl, k _ η2 H3 pz ((e1.trans e2).trans (.same s)) (R2'.same s)⟩
 | true =>
  simp only [if_true] at pz ⊢
  refine ⟨F, η2, _, R2'.same s, pz, fun z' η3 u' H4 h4 e4 R4 r4 => ?_⟩
  refine ⟨Oof F σ η3, y, z', _, R4.trO, (rw'.car (Car.same s)).car e4.car, r4, h4, fun z2 u2 H5 p5 s5 r5 => ?_⟩
  split at p5
  ·unfold Rep at r5
   exact ⟨_, r5, k _ η3 H5 p5 ((((e1.trans e2).trans (.same s)).trans e4).trans (.same s5)) (R4.same s5)⟩
  ·cases p5
theorem zi_enum1 {p pos tpos : Pos} {elts : List Expr} {kk : Nat} (hg : Gl X "enumerate") (hm : X.mg "enumerate" = none) (he : PE X e (up X.K T te)) (hs : starEach [e] X.env = [(false, eval e X.env)] := by rfl) :
  PI X (.Tuple elts kk tpos) (.Call (.Name "enumerate" p) [e] [] pos) (upI X.K T (iEnumP te)) := zi_enumT hg hm he hs
def rMulA : R2p := fun x y P => rMul x y P ∨ rMulS x y P
theorem zo_mulA : OpR X (binaryOp .Mult) (r2 X.K rMulA) := by
 intro pins s σ H x y v u Q I rx ry q
 obtain ⟨O, px, py, P, tr, h1, h2, h, k⟩ := q
 rcases h with h | h
 ·exact zo_mul pins s σ H x y v u Q I rx ry ⟨O, px, py, P, tr, h1, h2, h, k⟩
 ·exact zo_mulS pins s σ H x y v u Q I rx ry ⟨O, px, py, P, tr, h1, h2, h, k⟩
end
structure FunX (K : PySem.W.Frag) (x qual : Str) (st : Stmt) (dvs : List V) (c f : Addr) (fd : FuncData) : Prop where
 ex : ∃ (oc : Value) (od : Option Addr) (dV kV doc pm : Value) (an : Option Addr) (ct : Value) (osl : Array (Option Value)),
  fd = PySem.W.fnOf x qual (defArgs st) (defBody st) (defScope st) dV kV doc pm an (.ref c) ct ∧ K.lookup f = some ⟨oc, od, .func fd, osl⟩ ∧ PySem.W.codeIn K (.ref c) qual = true ∧ DflV K dV dvs
 kp : PySem.W.keepIn K (.ref f) = true
section
variable {P : Program} {w : World} {K : PySem.W.Frag} {mg : Str → Option Value} {base : Heap} {T : List (Addr × Str)} {x qual : Str} {st : Stmt} {f c : Addr} {fd : FuncData} {dvs : List V} {ps : List Str}
theorem FunX.d (F : FunX K x qual st dvs c f fd) : FunD K x qual (defArgs st) (defBody st) (defScope st) dvs [] f fd := by
 obtain ⟨oc, od, dV, kV, doc, pm, an, ct, osl, h1, h2, h3, h4⟩ := F.ex
 exact ⟨⟨oc, od, dV, kV, doc, pm, an, .ref c, ct, osl, h1, h2, h3, h4, .inl rfl⟩, F.kp⟩
theorem FunX.b0 (F : FunX K x qual st dvs c f fd) (hd : dvs ≠ [])
  (h : ∀ (T : Addr) (kV doc pm : Value) (an : Option Addr) (cdv ct : Value) (us its : List Value), us.length = ps.length → its.length = dvs.length →
   ∃ k, bindArgs (PySem.W.fnOf x qual (defArgs st) (defBody st) (defScope st) (.ref T) kV doc pm an cdv ct) ⟨us, []⟩ = seqItems? (.ref T) >>= k ∧ k (some its.toArray) = pure (ps.zip (us ++ its.drop dvs.length))) : Binds K fd ps [] := by
 obtain ⟨ds, h1, h2⟩ := F.d.binds1 (ps := ps) ps.length dvs.length hd (by omega) h
 rw [List.drop_length] at h1
 cases ds with
 | nil => exact h2
 | cons => exact (nomatch h1)
end
end Z
namespace Z
open PySem PySem.Spec L2 ClX
open PyProof.Rows hiding St
structure SMet (K : PySem.W.Frag) (C : Addr) (mc : Value) (m : Str) (p g : Addr) : Prop where
 at_ : PySem.W.findCls K (.ref C) mc m = some (.get (.builtin "staticmethod.__get__") (.ref p) .none (.ref C))
 rc : ∃ rest, PySem.W.recIn K p "staticmethod" = some (.ref g :: rest)
 kp : PySem.W.keepIn K (.ref g) = true
structure SInst (K : PySem.W.Frag) (C : Addr) (m : Str) (p g : Addr) : Prop where
 pg : PySem.W.plainGet K C Str.empty = true
 ic : PySem.W.isClsIn K C = true
 at_ : PySem.W.findIn K (.ref C) m = some (some (.ref p))
 ty : PySem.W.typeIn K (.ref p) = some (.type "staticmethod")
 get : PySem.W.specialIn K (.ref p) "__get__" = some (some (.builtin "staticmethod.__get__"))
 tk : PySem.W.takesIn K (.ref p) = some false
 cp : PySem.W.copiedNames.contains m = false
 rc : ∃ rest, PySem.W.recIn K p "staticmethod" = some (.ref g :: rest)
 kp : PySem.W.keepIn K (.ref g) = true
section
variable {X : Cx} {T : List (Addr × Str)} {k : Nat} {C p g : Addr} {mc : Value} {sp : SpP} {o e : Expr} {es : List Expr} {m : Str} {pos apos kpos : Pos} {te ta : TEp} {t : TAp} {fd : FuncData} {ps ks : List Str} {kws : List Keyword} {nm : Option Str}
theorem PK.weak {kws : List Keyword} {t t' : TA} (h : PK X kws t) (w : ∀ σ H Q, t' σ H Q → t σ H Q) : PK X kws t' := ⟨fun pos pins s σ H Q I q => h.run pos pins s σ H Q I (w _ _ _ q)⟩
theorem zk_nil : PK X [] (upA X.K T tNilP) := by
 refine PK.weak pk_nil fun σ H Q q => ?_
 obtain ⟨F, η, P, R, h, k⟩ := q
 exact k [] η [] H h .refl R .nil
theorem zk_cons (ha : PE X e (up X.K T te)) (hr : PK X kws (upA X.K T t)) : PK X (⟨nm, e, kpos⟩ :: kws) (upA X.K T (tConsP te t)) := by
 refine PK.weak (pk_cons ha hr) fun σ H Q q => ?_
 obtain ⟨F, η, P, R, h, k⟩ := q
 refine ⟨F, η, _, R, h, fun x η1 v H1 h1 e1 R1 r1' => ⟨F, η1, _, R1, h1, fun y η2 w H2 h2 e2 R2' rw' => ?_⟩⟩
 exact k (x :: y) η2 (v :: w) H2 h2 (e1.trans e2) R2' (.cons (r1'.car e2.car) rw')
end
end Z
namespace Z
open PySem PySem.Spec L2 ClX
open PyProof.Rows hiding St
section
variable {X : Cx} {T : List (Addr × Str)} {C : Addr} {mc : Value} {e : Expr} {f : Str} {pos : Pos} {ta : TEp} {x : PV} {v : V} {u : Value}
def tDic0P : TEp := fun η P => P .dic0 η
theorem z_dic0 : PE X (.Dict [] [] pos) (up X.K T tDic0P) := by
 refine PE.weak pe_dnewK fun σ H Q q => ?_
 obtain ⟨F, η, P, R, h, kk⟩ := q
 intro p hp
 refine kk _ _ _ _ h (.same (Same.new hp)) (R.same (Same.new hp)) ?_
 unfold Rep
 exact ⟨p, [], rfl, R.trO.fresh hp, upd_same, RepD.nil⟩
end
def trk0 (ts : List Addr) (a : Addr) (o : Obj) (u : HO) : Hp := fun b => if b = a then some (.frz o u) else if b ∈ ts then some (.tbl #[]) else none
section
variable {ts : List Addr} {a b : Addr} {o : Obj} {u : HO}
theorem trk0_a : trk0 ts a o u a = some (.frz o u) := if_pos rfl
theorem trk0_t (n : b ≠ a) (h : b ∈ ts) : trk0 ts a o u b = some (.tbl #[]) := (if_neg n).trans (if_pos h)
theorem trk0_n (n : b ≠ a) (h : b ∉ ts) : trk0 ts a o u b = none := (if_neg n).trans (if_neg h)
end
def NoList (K : PySem.W.Frag) : Bool := K.all fun p => match p.2.cls with
 | .type n => !(n == "list")
 | _ => true
theorem noList_at {K : PySem.W.Frag} (h : NoList K = true) {b : Addr} {o : Obj} (e : K.lookup b = some o) : o.cls ≠ .type "list" := by
 intro z
 have hm : ∃ p ∈ K, p.2 = o := by
  clear h
  induction K with
  | nil => cases e
  | cons p r ih =>
   rw [List.lookup_cons] at e
   cases q : (b == p.1) with
   | true =>
    rw [q] at e
    exact ⟨p, List.mem_cons_self, Option.some.inj e⟩
   | false =>
    rw [q] at e
    obtain ⟨p', h1, h2⟩ := ih e
    exact ⟨p', List.mem_cons_of_mem _ h1, h2⟩
 obtain ⟨p, h1, h2⟩ := hm
 have h3 := List.all_eq_true.mp h p h1
 rw [h2, z] at h3
 exact absurd h3 (by decide)
structure AtEnd (K : PySem.W.Frag) (mg mb : Str → Option Value) (cs : List (Addr × Addr)) (h : Heap) : Prop where
 X : K.In h
 g : h.Ns mainGlobals mg
 b : h.Ns builtinsNs mb
 bb : ∀ x : Str, x ≠ "__name__" → mb x = bootBuiltins x
 nolim : h.NoLimit
 code : ∀ p ∈ cs, PySem.W.CodeHd h p.1 p.2
 tab : ∀ p ∈ cs, h.get? p.2 = some (PySem.W.tabObj #[])
 bm : ∃ bm ob, mg "__builtins__" = some (.ref bm) ∧ bm ≠ builtinsNs ∧ h.get? bm = some ob ∧ ob.cls = .type "module" ∧ ob.dict = some builtinsNs ∧ ob.data = .plain
theorem law_endG {P : Program} {w : World} {K : PySem.W.Frag} {mg mb : Str → Option Value} {k : Nat} {fa a : Addr} {cs : List (Addr × Addr)} {T : List (Addr × Str)} {fd : FuncData} {x : Str} {sp : SpP} {s1 : Shared} {vs : List Value} {ns : List Int}
  (t : AtEnd K mg mb cs s1.heap) (nl : NoList K = true) (nK : ∀ p ∈ cs, K.lookup p.2 = none) (hTT : ∀ p ∈ T, p.1 ∈ cs.map (·.2)) (gn : s1.gens = #[])
  (ha : s1.heap.get? a = some { cls := .type "list", data := .seq vs.toArray }) (hi : IntsAre vs ns) (hl : ns.length ≤ sizeLine) (hr : Room k callerA)
  (F : ∀ base : Heap, K.In base → base.Ns mainGlobals mg → (∀ p ∈ cs, LamX.TabB base mg p.1 p.2) → FnG P w K mg base k fa fd [x] (upSp K T sp)) (hb : ∀ (s : Shared) (u : Value), BindsTo s fd ⟨[u], []⟩ [(x, u)])
  (hsp : sp [.scr ns] fun z => z = .bl true) :
  codeAny (model P w) callerA (.call (.ref fa) ⟨[.ref a], []⟩) (fun r s' => r = .ok (.ret (.bool true)) ∧ OldK s1.heap s'.heap ∧ s'.os = s1.os ∧ AllBare s'.gens) s1 := by
 let ts := cs.map (·.2)
 let ob : Obj := { cls := .type "list", data := .seq vs.toArray }
 let H : Hp := trk0 ts a ob (.lst (ns.map V.int))
 have isT : ∀ b ∈ ts, s1.heap.get? b = some (PySem.W.tabObj #[]) := fun b hb => by
  obtain ⟨p, hp, e⟩ := List.mem_map.mp hb
  rw [← e]; exact t.tab p hp
 have aT : a ∉ ts := fun z => by
  have q := (isT a z).symm.trans ha
  cases q
 have tA : ∀ b ∈ ts, b ≠ a := fun b hb z => aT (z ▸ hb)
 have kA : K.lookup a = none := by
  cases q : K.lookup a with
  | none => rfl
  | some o =>
   have e := (t.X a o q).symm.trans ha
   cases e
   exact absurd rfl (noList_at nl q)
 have kT : ∀ b ∈ ts, K.lookup b = none := fun b hb => by
  obtain ⟨p, hp, e⟩ := List.mem_map.mp hb
  rw [← e]; exact nK p hp
 -- an object that is neither the script nor a table
 have out : ∀ {b : Addr} {o : Obj}, s1.heap.get? b = some o → (∀ vs n, o.data ≠ .seq vs n) → o.data ≠ .fields #[] → H b = none := fun {b o} e h1 h2 => by
  refine trk0_n (fun z => ?_) fun z => ?_
  ·rw [z, ha] at e; cases e; exact h1 _ _ rfl
  ·rw [isT b z] at e; cases e; exact h2 rfl
 have toBase : ∀ {b : Addr} {o : Obj}, s1.heap.get? b = some o → (∀ vs n, o.data ≠ .seq vs n) → o.data ≠ .fields #[] → (hidT s1.heap H).get? b = some o := fun e h1 h2 => hidT_get e (out e h1 h2)
 have nsB : ∀ {b : Addr} {m : Str → Option Value}, s1.heap.Ns b m → (hidT s1.heap H).Ns b m := fun {b m} ⟨o, es, ep, e, d, r⟩ => ⟨o, es, ep, toBase e (fun vs n z => by rw [d] at z; cases z) (fun z => by rw [d] at z; cases z), d, r⟩
 have KB : K.In (hidT s1.heap H) := fun b o e => hidT_get (t.X b o e) (by
  refine trk0_n (fun z => ?_) fun z => ?_
  ·rw [z, kA] at e; cases e
  ·rw [kT b z] at e; cases e)
 have M : L2.Mod K mg (hidT s1.heap H) := ⟨KB, nsB t.g, ⟨mb, nsB t.b, t.bb⟩, let ⟨mc, h1, h2⟩ := t.nolim; ⟨mc, nsB h1, h2⟩⟩
 have TB : ∀ p ∈ cs, LamX.TabB (hidT s1.heap H) mg p.1 p.2 := fun p hp => by
  have e2 := t.tab p hp
  refine ⟨?_, ?_, fun z => ?_⟩
  ·obtain ⟨o, us, file, tf, flags, tg, inF, text, tt, e1, r1, r2, r3, r⟩ := t.code p hp
   exact ⟨o, us, file, tf, flags, tg, inF, text, tt, toBase e1 (fun vs n z => by rw [r2] at z; cases z) (fun z => by rw [r2] at z; cases z; simp at r3), r1, r2, r3, r⟩
  ·obtain ⟨m, om, b1, b2, b3, b4, b5, b6⟩ := t.bm
   refine ⟨m, om, b1, b2, fun q => ?_, fun q => ?_, toBase b3 (fun vs n z => by rw [b6] at z; cases z) (fun z => by rw [b6] at z; cases z), b4, b5, b6⟩
   ·obtain ⟨o, es, ep, e, hd, _⟩ := t.g
    rw [q, e] at b3; cases b3; rw [hd] at b6; cases b6
   ·rw [q, e2] at b3; cases b3; cases b6
  ·obtain ⟨o, es, ep, e, hd, _⟩ := t.g
   rw [z, e2] at e; cases e; cases hd
 have rv := vals_ints hi
 have hok : HOk P w H s1.heap := fun b u e => by
  by_cases hba : b = a
  ·rw [hba] at e ⊢
   obtain rfl : _ = u := Option.some.inj (trk0_a.symm.trans e)
   exact ⟨ha, by rw [List.length_map]; exact hl, vs, _, rv, ha⟩
  ·by_cases hbt : b ∈ ts
   ·obtain rfl : _ = u := Option.some.inj ((trk0_t hba hbt).symm.trans e)
    exact isT b hbt
   ·have z := (trk0_n (o := ob) (u := .lst (ns.map V.int)) hba hbt).symm.trans e
    cases z
 have e0 : Env0 P w K mg (hidT s1.heap H) callerA [] s1 H := ⟨rfl, M, fun b o e => of_hidT e, Nat.le_of_eq (hidT_size _ _), trivial, (fun b z => absurd (show b ∈ ([] : List Addr) from z) (by simp)), hok, .of_eq gn⟩
 have hT0 : LamX.Tabs T H := fun p hp => ⟨#[], trk0_t (tA _ (hTT p hp)) (hTT p hp), trivial, fun pos cv z => by cases z⟩
 have promise : upSp K T sp [.ref a] H (fun v _ => v = .bl true) fun _ _ _ => False := by
  refine ⟨fun _ => False, [.scr ns], fun z => z = .bl true, fun b z => z.elim, hT0, ?_, hsp, fun z v H' e _ _ r => ?_⟩
  ·unfold Reps
   refine ⟨.ref a, [], rfl, ?_, ?_⟩
   ·unfold Rep
    exact ⟨a, ob, rfl, id, trk0_a⟩
   ·unfold Reps
    rfl
  ·subst e
   exact r.bl_
 refine codeAny_mono ((F _ KB (nsB t.g) TB).run callerA [] s1 H ⟨[.ref a], []⟩ [.ref a] [.ref a] _ _ rfl hr e0 (hb s1 (.ref a)) (.cons rfl .nil) promise) fun r s' h => ?_
 match r, h with
 | .error e, h => exact h.elim
 | .ok (.ret u), ⟨v, H', os, bare, un, hok', r', q⟩ =>
  have q' : v = .bl true := q
  subst q'
  obtain rfl : u = Value.bool true := r'
  have same : ∀ b o, b ∉ ts → s1.heap.get? b = some o → s'.heap.get? b = some o := fun b o nb e => by
   by_cases hba : b = a
   ·have z2 := un.frzs b ob (.lst (ns.map V.int)) (by rw [hba]; exact trk0_a)
    rw [hba] at e z2 ⊢
    rw [ha] at e; cases e
    exact (hok' a _ z2).1
   ·exact un.keep b o e (trk0_n hba nb) (by intro z; exact absurd (show b ∈ ([] : List Addr) from z) (by simp)) (by simp)
  have more : ∀ b ∈ ts, ∃ m : Array Value, s'.heap.get? b = some (PySem.W.tabObj m) := fun b hb => by
   obtain ⟨m, z⟩ := un.tbls b #[] (trk0_t (tA b hb) hb)
   exact ⟨_, hok' b _ z⟩
  refine ⟨rfl, ⟨fun b o e => ?_, fun b o e => ?_⟩, os, bare⟩
  ·by_cases hb : b ∈ ts
   ·obtain ⟨m, hm⟩ := more b hb
    rw [isT b hb] at e; cases e
    obtain ⟨p, hp, ep⟩ := List.mem_map.mp hb
    refine .inr (.inl ⟨?_, rfl, #[], m, rfl, by rw [Array.empty_append]; exact hm⟩)
    rw [← ep]
    exact ((t.code p hp).tab (t.tab p hp)).isCodeTable
   ·exact .inl (same b o hb e)
  ·by_cases hb : b ∈ ts
   ·obtain ⟨m, hm⟩ := more b hb
    exact ⟨_, hm⟩
   ·exact ⟨o, same b o hb e⟩
def LawG (l : PySem.W.OpenLaw) (w : World) (K : PySem.W.Frag) (k n : Nat) (x : Str) (mg : Str → Option Value) (fa : Addr) (h : Heap) : Prop :=
 ∃ (fd : FuncData) (cs : List (Addr × Addr)) (T : List (Addr × Str)) (sp : SpP), (∀ p ∈ cs, PySem.W.CodeHd h p.1 p.2) ∧ (∀ p ∈ cs, h.get? p.2 = some (PySem.W.tabObj #[])) ∧ (∀ p ∈ cs, K.lookup p.2 = none) ∧ NoList K = true ∧ (∀ p ∈ T, p.1 ∈ cs.map (·.2)) ∧
  (∀ (s : Shared) (u : Value), BindsTo s fd ⟨[u], []⟩ [(x, u)]) ∧ (∀ ns : List Int, ns.length ≤ n → (∀ z ∈ ns, Builtin.Int.intBits z ≤ 1048576) → sp [.scr ns] fun z => z = .bl true) ∧
  ∀ base : Heap, K.In base → base.Ns mainGlobals mg → (∀ p ∈ cs, LamX.TabB base mg p.1 p.2) → FnG l.prog w K mg base k fa fd [x] (upSp K T sp)
theorem walkG {l : PySem.W.OpenLaw} {n k : Nat} {q : Program} {loose : List Str} {XP : (Str → Option Value) → Heap → Prop} {YP : World → Heap → Prop} {d : DefRec} {K : Params → PySem.W.Frag} {x : Str}
  (hn : l.most = some n) (hn2 : n ≤ sizeLine) (hdf : d.params.defaults = []) (hr : Room k callerA) (hY : ∀ (w : World) (h : Heap), YP w h → (K w.params).In h)
  (F : ∀ (w : World) (mg : Str → Option Value) (fa : Addr) (h : Heap), YP w h → (K w.params).In h → h.Ns mainGlobals mg → mg d.name = some (.ref fa) → LawG l w (K w.params) k n x mg fa h) :
  PySem.W.WalkO q loose XP YP l.row.toRowW d [] (fun f vs => PySem.call f vs) := by
 refine Att.attach_callB hn hdf fun w s0 s1 mg mb fa o pm cd doc a vs ns G Y ho hd hcd hmg hobj hints hlen hbits hg => ?_
 obtain ⟨fd, cs, T, sp, hC, hT, nT, nl, hTT, hb, hsp, hF⟩ := F w mg fa _ Y (hY w _ Y) G.T.g hmg
 exact law_endG ⟨hY w _ Y, G.T.g, G.T.b, G.T.builtins, G.T.nolimit, hC, hT, G.T.bmain⟩ nl nT hTT hg hobj hints (Nat.le_trans hlen hn2) hr hF hb (hsp ns hlen hbits)
end Z
namespace Z
open PySem PySem.Spec L2 PySem.Calls
open PyProof.Rows hiding St
structure OwnC (K : PySem.W.Frag) (C fE fL fS : Addr) : Prop where
 t : ClsT K C
 eq : PySem.W.findIn K (.ref C) "__eq__" = some (some (.ref fE))
 eqf : PySem.W.isFn K (.ref fE) = true
 ne : PySem.W.findIn K (.ref C) "__ne__" = some (some (.builtin "object.__ne__"))
 len : PySem.W.findIn K (.ref C) "__len__" = some (some (.ref fL))
 lenf : PySem.W.isFn K (.ref fL) = true
 bool : PySem.W.findIn K (.ref C) "__bool__" = some none
 str : PySem.W.findIn K (.ref C) "__str__" = some (some (.ref fS))
 strf : PySem.W.isFn K (.ref fS) = true
 nf : ∀ n : String, n ∈ ["NoneType", "int", "bool", "str", "tuple", "list", "dict"] → PySem.W.notFirst K C (.type n) = true
theorem OwnC.nfC {K : PySem.W.Frag} {C fE fL fS : Addr} (o : OwnC K C fE fL fS) : PySem.W.notFirst K C (.ref C) = true := by unfold PySem.W.notFirst; simp
end Z
namespace Z
open PySem PySem.Spec L2 PySem.Calls
open PyProof.Rows hiding St
section
variable {prog : Program} {w : World} {A : Around} {E : Value → Shared → Prop} {s : Shared} {K : PySem.W.Frag} {x C f : Addr} {ox : Obj} {od : Option Obj}
theorem lenBody {Q : Value → Shared → Prop} (X : K.In s.heap) (I : PySem.W.InstAt s.heap x ox C od) (hs : PySem.W.findIn K (.ref C) "__len__" = some (some (.ref f))) (hf : PySem.W.isFn K (.ref f) = true)
  (h : wpAny (model prog w) A (call (.ref f) [.ref x]) (fun v s' => ∃ n t, v = .int n t ∧ (0 ≤ n ∧ n < 2 ^ 63) ∧ Q (.int n s'.toks) { s' with toks := s'.toks + 1 }) E s) :
  wpAny (model prog w) A (Builtin.«len» ⟨[.ref x], []⟩) (fun fin s' => ∃ r, fin = .done (.ret r) ∧ Q r s') E s := by
 unfold Builtin.«len»
 refine wpAny_bind (m := oneArg "len" _) (wpAny_pure (wpAny_bind (m := callSpecial? (.ref x) (Str.ofString "__len__")) (PySem.W.special_fn X I hs (beq_iff_eq.mp hf) (wpAny_mono h (fun r s' ⟨n, t, e, ⟨h0, h1⟩, q⟩ => ?_) fun _ _ y => y))))
 subst e
 refine wpAny_bind (wpAny_holding (wpAny_pure (wpAny_bind (wpAny_letGo ?_))))
 show wpAny _ _ (if n < 0 then _ else if n ≥ 2 ^ 63 then _ else _) _ _ _
 rw [if_neg (by omega), if_neg (by omega)]
 exact wpAny_bind (wpAny_mkInt (wpAny_pure ⟨_, rfl, q⟩))
theorem truthyLen {Q : Bool → Shared → Prop} (X : K.In s.heap) (I : PySem.W.InstAt s.heap x ox C od) (hb : PySem.W.findIn K (.ref C) "__bool__" = some none) (hs : PySem.W.findIn K (.ref C) "__len__" = some (some (.ref f))) (hf : PySem.W.isFn K (.ref f) = true)
  (h : wpAny (model prog w) A.in1 (call (.ref f) [.ref x]) (fun v s' => ∃ n t, v = .int n t ∧ (0 ≤ n ∧ n < 2 ^ 63) ∧ Q (n != 0) { s' with toks := s'.toks + 1 }) E s) : wpAny (model prog w) A (truthy (.ref x)) Q E s := by
 have key : wpAny (model prog w) A (runValue (.builtin "len" ⟨[.ref x], []⟩)) (fun r s' => ∃ n t, r = .int n t ∧ Q (n != 0) s') E s := by
  refine wpAny_runValue (codeAny_builtin entry_len ?_)
  rw [Around.under_plainId plain_len _]
  exact wpAny_mono (lenBody (Q := fun r s' => ∃ n t, r = .int n t ∧ Q (n != 0) s') X I hs hf (wpAny_mono h (fun v s' ⟨n, t, e, b, q⟩ => ⟨n, t, e, b, n, _, rfl, q⟩) fun _ _ z => z)) (fun fin s' ⟨r, e, n, t, e2, q⟩ => by subst e; exact ⟨n, t, e2, q⟩) fun _ _ z => z
 unfold truthy
 refine wpAny_bind (m := callSpecial? (.ref x) (Str.ofString "__bool__")) (wpAny_bind (wpAny_bind (I.type.here ((PySem.W.looks_findIn X hb).here (wpAny_pure ?_)))))
 refine wpAny_bind (wpAny_bind (I.type.here ((PySem.W.looks_findIn X hs).here ?_)))
 exact wpAny_bind (wpAny_mono key (fun r s' ⟨n, t, e, q⟩ => by subst e; exact wpAny_pure q) fun _ _ z => z)
theorem boolOf {v : Value} {Q : Value → Shared → Prop} (h : wpAny (model prog w) A.in1.in1 (truthy v) (fun b s' => Q (.bool b) s') E s) : wpAny (model prog w) A (call (.type "bool") [v]) Q E s := by
 refine callType_codes (T := "bool") (Bi := Builtin.«object.__init__») (Q₁ := fun r s1 => ∃ b, r = .bool b ∧ Q r s1) PySem.F.called_bool (PySem.F.typeCall_bool_1 v) PySem.F.entry_object_init ?_ ?_
 ·refine codeAny_of_tree ?_
  show wpAny _ A.in1.in1 (do checkBuiltinCall "bool.__new__" ⟨[.type "bool", v], []⟩; again (.builtin "bool.__new__" ⟨[.type "bool", v], []⟩)) _ _ s
  refine wpAny_bind (wpAny_of_eq (PySem.F.newCall_bool_1 v) (wpAny_pure ⟨plainId_quiet (by decide +kernel) _, codeAny_builtin PySem.F.entry_bool_new ?_⟩))
  rw [Around.under_plainId (by decide +kernel) _]
  unfold Builtin.«bool.__new__»
  refine wpAny_bind (wpAny_pure (wpAny_bind (wpAny_of_eq PySem.F.conv_sub_bool ?_)))
  refine wpAny_bind (m := someArgs "bool" 0 1 _) (wpAny_pure (wpAny_bind (wpAny_mono h (fun b s' q => wpAny_pure ⟨b, rfl, q⟩) fun _ _ z => z)))
 ·rintro obj s1 ⟨b, rfl, q⟩
  have ty : s1.TypeIs (.bool b) "bool" := PySem.typeIs_bool _ _
  exact ⟨ty, PySem.F.args_object_init_2 _ _, object_init_meets PySem.F.called_bool.init.lookup PySem.F.called_bool.made (by decide) prog w A.in1 _ s1 ⟨ty, rfl, q⟩⟩
end
section
variable {X : Cx} {k : Nat} {C fE fL fS f : Addr} {fd : FuncData} {ps : List Str} {sp : Sp}
theorem run_at {pins : List (Addr × Obj)} {σ : St} {H : Hp} {s : Shared} {Q : VK} {us : List Value} {vs : List V} {A : Around} (F : FnOk X.prog X.w X.K X.mg X.base CX0 k f fd ps sp) (fr : A.frames = X.A.frames) (hr : Room k A) (hb : Binds X.K fd ps [])
  (I : Inv X pins σ H s) (r : Vals vs us) (h : sp vs H Q E0) : wpAny (model X.prog X.w) A (call (.ref f) us) (EP X pins σ Q) X.xe s := by
 have e := I.env0
 have e0 : Env0 X.prog X.w X.K X.mg X.base A X.stack s H := ⟨by rw [fr]; exact e.frames, e.mod, e.bs, e.bsz, e.funs, e.frf, e.hok, e.bare⟩
 have hl := F.len _ _ _ _ h
 refine wpAny_call (codeAny_mono (F.run A X.stack s H ⟨us, []⟩ us vs Q E0 hr e0 (by
  have z := hb s us I.kIn (by rw [List.append_nil, ← r.length]; exact hl)
  rwa [List.append_nil] at z) r h) fun r' s' hq => ?_)
 match r', hq with
 | .error e, hq => exact pass0 pins σ H s e s' I hq
 | .ok (.ret u), hq => exact I.after hq
def rEqO (K : PySem.W.Frag) (C : Addr) (sp : Sp) (neg : Bool) : R2 := fun x y H Q => ∃ a dx fs t, x = .ref a ∧ H a = some (.ins C dx fs) ∧ TyX K H y t ∧ PySem.W.notFirst K C t = true ∧ sp [x, y] H (fun z H' => ∃ b, z = .bl b ∧ Q (.bl (b != neg)) H') E0
theorem op_eqO (F : FnOk X.prog X.w X.K X.mg X.base CX0 k fE fd ps sp) (hr : Room (k + 1) X.A) (o : OwnC X.K C fE fL fS) (hb : Binds X.K fd ps []) : OpR X (compareOp .Eq) (rEqO X.K C sp false) := by
 intro pins s σ H x y v u Q I rx ry h
 obtain ⟨a, dx, fs, t, rfl, ha, ty, nf, hsp⟩ := h
 cases rx
 obtain ⟨mA, J, _⟩ := ins_get I.hok ha
 obtain ⟨od, J, _⟩ := J.look
 obtain ⟨P, kx, hp, _⟩ := kit_of I ry ty
 obtain ⟨m, hF⟩ := I.fr
 refine PySem.W.cmp_ofEq (PySem.W.cmp_K (op := .Eq) (tb := t) hr.units0 hF I.ok.mod.kin J (kx.ty _ _ I.kIn hp) nf o.eq o.eqf ?_)
 refine wpAny_mono (run_at F rfl (hr.mono (Nat.le_succ _)) hb I (.cons (show RelV (V.ref a) (Value.ref a) from rfl) (.cons ry .nil)) hsp) (fun v s' ⟨z, H', I', rz, b, ez, q⟩ => ?_) fun _ _ e => e
 subst ez
 obtain rfl : v = Value.bool b := rz
 show EP X pins σ Q (.bool b) s'
 exact ⟨.bl b, H', I', rfl, by simpa using q⟩
def rLenO (C : Addr) (sp : Sp) : List V → Hp → VK → Prop := fun xs H Q => ∃ a dx fs, xs = [.ref a] ∧ H a = some (.ins C dx fs) ∧ sp [.ref a] H (fun z H' => ∃ n : Int, z = .int n ∧ (0 ≤ n ∧ n < 2 ^ 63) ∧ Q (.int n) H') E0
theorem call_lenO (F : FnOk X.prog X.w X.K X.mg X.base CX0 k fL fd ps sp) (hr : Room (k + 1) X.A) (o : OwnC X.K C fE fL fS) (hb : Binds X.K fd ps []) : CallR X (.builtin "len") (rLenO C sp) := by
 intro pins s σ H xs us Q I r h
 obtain ⟨a, dx, fs, rfl, ha, hsp⟩ := h
 obtain rfl := Vals.ref1 r
 obtain ⟨mA, J, _⟩ := ins_get I.hok ha
 obtain ⟨od, J, _⟩ := J.look
 obtain ⟨m, hF⟩ := I.fr
 refine PySem.W.len_K hF I.ok.mod.kin J o.len o.lenf ?_
 refine wpAny_mono (run_at F rfl hr.in1 hb I r hsp) (fun v s' ⟨z, H', I', rz, n, ez, hn, q⟩ => ?_) fun _ _ e => e
 subst ez
 obtain ⟨t, rfl⟩ : ∃ t, v = Value.int n t := rz
 exact ⟨hn, .int n, H', I'.tok _, ⟨_, rfl⟩, q⟩
def rBoolO (C : Addr) (sp : Sp) : List V → Hp → VK → Prop := fun xs H Q => ∃ a dx fs, xs = [.ref a] ∧ H a = some (.ins C dx fs) ∧ sp [.ref a] H (fun z H' => ∃ n : Int, z = .int n ∧ (0 ≤ n ∧ n < 2 ^ 63) ∧ Q (.bl (n != 0)) H') E0
theorem call_boolO (F : FnOk X.prog X.w X.K X.mg X.base CX0 k fL fd ps sp) (hr : Room (k + 3) X.A) (o : OwnC X.K C fE fL fS) (hb : Binds X.K fd ps []) : CallR X (.type "bool") (rBoolO C sp) := by
 intro pins s σ H xs us Q I r h
 obtain ⟨a, dx, fs, rfl, ha, hsp⟩ := h
 obtain rfl := Vals.ref1 r
 obtain ⟨mA, J, _⟩ := ins_get I.hok ha
 obtain ⟨od, J, _⟩ := J.look
 refine boolOf (truthyLen I.kIn J o.bool o.len o.lenf ?_)
 refine wpAny_mono (run_at F rfl (Room.in1 (Room.in1 (Room.in1 hr))) hb I r hsp) (fun v s' ⟨z, H', I', rz, n, ez, hn, q⟩ => ?_) fun _ _ e => e
 subst ez
 obtain ⟨t, rfl⟩ : ∃ t, v = Value.int n t := rz
 exact ⟨n, t, rfl, hn, .bl (n != 0), H', I'.tok _, rfl, q⟩
def rStrO (C : Addr) (sp : Sp) : List V → Hp → VK → Prop := fun xs H Q => ∃ a dx fs, xs = [.ref a] ∧ H a = some (.ins C dx fs) ∧ sp [.ref a] H (fun z H' => ∃ y, z = .str y ∧ Q z H') E0
theorem call_strO (F : FnOk X.prog X.w X.K X.mg X.base CX0 k fS fd ps sp) (hr : Room (k + 2) X.A) (o : OwnC X.K C fE fL fS) (hb : Binds X.K fd ps []) : CallR X (.type "str") (rStrO C sp) := by
 intro pins s σ H xs us Q I r h
 obtain ⟨a, dx, fs, rfl, ha, hsp⟩ := h
 obtain rfl := Vals.ref1 r
 obtain ⟨mA, J, _⟩ := ins_get I.hok ha
 obtain ⟨od, J, _⟩ := J.look
 refine PySem.W.kso_call (Room.in1 (Room.in1 hr)).units0 I.kIn J o.str o.strf ?_
 refine wpAny_mono (run_at F rfl (Room.in1 (Room.in1 hr)) hb I r hsp) (fun v s' ⟨z, H', I', rz, y, ez, q⟩ => ?_) fun _ _ e => e
 subst ez
 obtain ⟨t, rfl⟩ : ∃ t, v = Value.str y t := rz
 exact ⟨.str y, H', I', ⟨t, rfl⟩, q⟩
end
section
variable {X : Cx} {T : List (Addr × Str)} {k : Nat} {C fE fL fS f : Addr} {fd : FuncData} {ps ks : List Str} {sp : SpP} {sr : SpR} {a b e : Expr} {es : List Expr} {ta tb : TEp} {t tk : TAp} {pos p : Pos} {x : Str} {kws : List Keyword}
def EqTy (K : PySem.W.Frag) (C : Addr) (y : PV) : Prop := (tyN y).isSome = true ∨ ∃ fs, y = .ins C fs
theorem eqTy_rep {K : PySem.W.Frag} {O : Addr → Prop} {H : Hp} {y : PV} {v : V} (o : OwnC K C fE fL fS) (h : Rep K O H y v) (t : EqTy K C y) : ∃ u, TyX K H v u ∧ PySem.W.notFirst K C u = true := by
 rcases t with t | ⟨fs, rfl⟩
 ·obtain ⟨n, e⟩ := Option.isSome_iff_exists.mp t
  refine ⟨_, tyN_rep h e, o.nf n ?_⟩
  cases y <;> unfold tyN at e <;> cases e <;> decide
 ·obtain ⟨a, dx, ws, rfl, na, q, rr⟩ := h.ins_
  exact ⟨_, .base (.ins q o.t.cl o.t.ha o.t.hn o.t.htk o.t.hm), o.nfC⟩
def tEqOP (K : PySem.W.Frag) (C : Addr) (sp : SpP) (neg : Bool) (ta tb : TEp) : TEp := fun η P => ta η fun x η1 => tb η1 fun y η2 => (∃ fs, x = .ins C fs) ∧ EqTy K C y ∧ sp [x, y] fun z => ∃ b, z = .bl b ∧ P (.bl (b != neg)) η2
theorem z_cmpO {op : CmpOp} {neg : Bool} (o : OwnC X.K C fE fL fS) (ho : OpR X (compareOp op) (rEqO X.K C (upSp X.K T sp) neg)) (ha : PE X a (up X.K T ta)) (hb : PE X b (up X.K T tb)) (hm : behindInMarks op b = false := by first | exact nomark _ | rfl) :
  PE X (.Compare a [op] [b] pos) (up X.K T (tEqOP X.K C sp neg ta tb)) := by
 refine PE.weak (pe_cmpR ho ha hb hm) fun σ H Q q => ?_
 obtain ⟨F, η, P, R, h, kk⟩ := q
 refine ⟨F, η, _, R, h, fun x η1 v H1 h1 e1 R1 r1 => ⟨F, η1, _, R1, h1, fun y η2 w H2 h2 e2 R2 rw => ?_⟩⟩
 obtain ⟨⟨fs, rfl⟩, ty, h2⟩ := h2
 have rx := r1.car e2.car
 obtain ⟨u, t1, t2⟩ := eqTy_rep o rw ty
 obtain ⟨a', dx, ws, rfl, na, q', rr⟩ := id rx.ins_
 exact ⟨a', dx, ws, u, rfl, q', t1, t2, Oof F σ η2, _, _, R2.trO, R2.tb, .cons rx (.cons rw .nil), h2, fun z v H3 ⟨b, ez, pz⟩ g tb rz => ⟨b, by rw [ez] at rz; exact rz.bl_, kk _ η2 _ H3 pz ((e1.trans e2).trans g.ext) (R2.gr g tb) (by unfold Rep; rfl)⟩⟩
def tLenOP (C : Addr) (sp : SpP) (t : TAp) : TEp := fun η P => t η fun xs η1 => ∃ fs, xs = [.ins C fs] ∧ sp [.ins C fs] fun z => ∃ n : Int, z = .int n ∧ (0 ≤ n ∧ n < 2 ^ 63) ∧ P (.int n) η1
theorem z_lenO (o : OwnC X.K C fE fL fS) (hc : CallR X (.builtin "len") (rLenO C (upSp X.K T sp))) (hg : Gl X x) (hm : X.mg x = none) (hv : bootBuiltins x = some (.builtin "len")) (ha : PA X (e :: es) (upA X.K T t)) (hn : x ≠ "__name__" := by decide) (hdb : (x == ("__debug__" : Str)) = false := by decide)
  (he : starEach (e :: es) X.env = (false, eval e X.env) :: starEach es X.env := by rfl) (hpl : (backTo pos (starEach es X.env)).any (·.1) = false := by rfl) : PE X (.Call (.Name x p) (e :: es) [] pos) (up X.K T (tLenOP C sp t)) := by
 refine PE.weak (pe_callB hc hg hm hv ha hn hdb he hpl) fun σ H Q q => ?_
 obtain ⟨F, η, P, R, h, kk⟩ := q
 refine ⟨F, η, _, R, h, fun xs η1 v H1 h1 e1 R1 r1 => ?_⟩
 obtain ⟨fs, rfl, h1⟩ := h1
 obtain ⟨v1, rfl, r2⟩ := r1.one
 obtain ⟨a', dx, ws, rfl, na, q', rr⟩ := id r2.ins_
 exact ⟨a', dx, ws, rfl, q', Oof F σ η1, _, _, R1.trO, R1.tb, .cons r2 .nil, h1, fun z v H3 ⟨n, ez, hn, pz⟩ g tb rz => ⟨n, by rw [ez] at rz; exact rz.int_, hn, kk _ η1 _ H3 pz (e1.trans g.ext) (R1.gr g tb) (by unfold Rep; rfl)⟩⟩
def tBoolOP (C : Addr) (sp : SpP) (t : TAp) : TEp := fun η P => t η fun xs η1 => ∃ fs, xs = [.ins C fs] ∧ sp [.ins C fs] fun z => ∃ n : Int, z = .int n ∧ (0 ≤ n ∧ n < 2 ^ 63) ∧ P (.bl (n != 0)) η1
theorem z_boolO (o : OwnC X.K C fE fL fS) (hc : CallR X (.type "bool") (rBoolO C (upSp X.K T sp))) (hg : Gl X x) (hm : X.mg x = none) (hv : bootBuiltins x = some (.type "bool")) (ha : PA X (e :: es) (upA X.K T t)) (hn : x ≠ "__name__" := by decide) (hdb : (x == ("__debug__" : Str)) = false := by decide)
  (he : starEach (e :: es) X.env = (false, eval e X.env) :: starEach es X.env := by rfl) (hpl : (backTo pos (starEach es X.env)).any (·.1) = false := by rfl) : PE X (.Call (.Name x p) (e :: es) [] pos) (up X.K T (tBoolOP C sp t)) := by
 refine PE.weak (pe_callTy hc hg hm hv ha hn hdb he hpl) fun σ H Q q => ?_
 obtain ⟨F, η, P, R, h, kk⟩ := q
 refine ⟨F, η, _, R, h, fun xs η1 v H1 h1 e1 R1 r1 => ?_⟩
 obtain ⟨fs, rfl, h1⟩ := h1
 obtain ⟨v1, rfl, r2⟩ := r1.one
 obtain ⟨a', dx, ws, rfl, na, q', rr⟩ := id r2.ins_
 exact ⟨a', dx, ws, rfl, q', Oof F σ η1, _, _, R1.trO, R1.tb, .cons r2 .nil, h1, fun z v H3 ⟨n, ez, hn, pz⟩ g tb rz => ⟨n, by rw [ez] at rz; exact rz.int_, hn, kk _ η1 _ H3 pz (e1.trans g.ext) (R1.gr g tb) (by unfold Rep; rfl)⟩⟩
def tStrOP (C : Addr) (sp : SpP) (t : TAp) : TEp := fun η P => t η fun xs η1 => ∃ fs, xs = [.ins C fs] ∧ sp [.ins C fs] fun z => (∃ y, z = .str y) ∧ P z η1
theorem z_strO (o : OwnC X.K C fE fL fS) (hc : CallR X (.type "str") (rStrO C (upSp X.K T sp))) (hg : Gl X x) (hm : X.mg x = none) (hv : bootBuiltins x = some (.type "str")) (ha : PA X (e :: es) (upA X.K T t)) (hn : x ≠ "__name__" := by decide) (hdb : (x == ("__debug__" : Str)) = false := by decide)
  (he : starEach (e :: es) X.env = (false, eval e X.env) :: starEach es X.env := by rfl) (hpl : (backTo pos (starEach es X.env)).any (·.1) = false := by rfl) : PE X (.Call (.Name x p) (e :: es) [] pos) (up X.K T (tStrOP C sp t)) := by
 refine PE.weak (pe_callTy hc hg hm hv ha hn hdb he hpl) fun σ H Q q => ?_
 obtain ⟨F, η, P, R, h, kk⟩ := q
 refine ⟨F, η, _, R, h, fun xs η1 v H1 h1 e1 R1 r1 => ?_⟩
 obtain ⟨fs, rfl, h1⟩ := h1
 obtain ⟨v1, rfl, r2⟩ := r1.one
 obtain ⟨a', dx, ws, rfl, na, q', rr⟩ := id r2.ins_
 exact ⟨a', dx, ws, rfl, q', Oof F σ η1, _, _, R1.trO, R1.tb, .cons r2 .nil, h1, fun z v H3 ⟨⟨y, ez⟩, pz⟩ g tb rz => ⟨y, by rw [ez] at rz; exact rz.str_, kk _ η1 _ H3 pz (e1.trans g.ext) (R1.gr g tb) rz⟩⟩
theorem pe_makeN0 {X : Cx} {CX : CXT} {k : Nat} {f C : Addr} {fd : FuncData} {ps ks : List Str} {sp : Sp} {E : XK} {x : Str} {p pos : Pos} {kws : List Keyword} {tk : TA} {g : List Value → List Value → List Value} {gV : List V → List V → List V}
  (M : Mk X.K C f) (F : FnOk X.prog X.w X.K X.mg X.base CX k f fd ps sp) (hr : Room (k + 1) X.A) (hg : Gl X x) (hm : X.mg x = some (.ref C)) (hb : KBn X.K fd ps (0 + 1) ks g gV) (hx : Passes CX X E) (hkw : PK X kws tk)
  (hall : (backToKw pos (keywordEach kws X.env)).all (·.1.isSome) = true := by rfl) (hks : (backToKw pos (keywordEach kws X.env)).filterMap (·.1) = ks := by rfl) (hdb : (x == ("__debug__" : Str)) = false := by decide)
  (hpl : ((backTo pos (starEach [] X.env)).any (·.1) || (backToKw pos (keywordEach kws X.env)).any (·.1.isNone)) = false := by rfl) :
  PE X (.Call (.Name x p) [] kws pos) (tMakeN C 0 ks.length sp gV E tNil tk) := by
 refine ⟨fun pins s σ H Q I h => wpAny_Call_Name_kw (ld_glob I hg hm ?_ hdb)⟩
 refine PySem.W.callWith_KW0 (h₀ := X.base) (first := []) I.ok.mod.kin M.kp hall (thn (hkw.run pos pins s σ H _ I h) fun ws s2 ⟨zs, H2, I2, rz, l1, l2, q2⟩ => ⟨I2.kIn, ?_⟩) hpl
 rw [hks]
 exact run_makeN M F hr hb hx I2 .nil rz l1 l2 q2
end
def LowS (x : Str) : Prop := ∀ c ∈ x.cps.toList, 97 ≤ c ∧ c ≤ 122
abbrev Row3 := Str × Int × Int
def rowE (r : Row3) : PyData := .tuple [.str r.1, .int r.2.1, .int r.2.2]
structure GoodR (r : Row3) : Prop where
 low : LowS r.1
 s0 : 0 ≤ r.2.1
 e0 : 0 ≤ r.2.2
def joinL : List (List Nat) → List Nat
 | [] => []
 | [x] => x
 | x :: y :: r => x ++ 44 :: 32 :: joinL (y :: r)
end Z
namespace Z
open PySem PySem.Spec L2 StX
open PyProof.Rows hiding St
section
variable {X : Cx} {T : List (Addr × Str)} {e : Expr} {es : List Expr} {te : TEp} {t : TAp} {pos p : Pos}
def tStarP (te : TEp) (t : TAp) : TAp := fun η P => te η fun x η1 => match x with
 | .lst xs => t η1 fun ys η2 => P (xs ++ ys) η2
 | .tup xs => t η1 fun ys η2 => P (xs ++ ys) η2
 | _ => False
theorem za_star (he : PE X e (up X.K T te)) (hr : PA X es (upA X.K T t)) (hs : starEach (.Starred e p :: es) X.env = (true, eval e X.env) :: starEach es X.env := by rfl) : PA X (.Starred e p :: es) (upA X.K T (tStarP te t)) := by
 refine PA.weak (pa_star he hr hs) fun σ H Q q => ?_
 obtain ⟨F, η, P, R, h, k⟩ := q
 refine ⟨F, η, _, R, h, fun x η1 v H1 h1 e1 R1 r1 => ?_⟩
 split at h1
 ·obtain ⟨a, vs, rfl, n, q, rr⟩ := r1.lst_
  exact ⟨a, vs, rfl, .inr (SqL.of q), F, η1, _, R1, h1, fun ys η2 ws H2 h2 e2 R2 r2 => k _ η2 _ H2 h2 (e1.trans e2) R2 ((rr.car e2.car).app r2)⟩
 ·obtain ⟨a, vs, rfl, q, rr⟩ := r1.tup_
  exact ⟨a, vs, rfl, .inl q.sq, F, η1, _, R1, h1, fun ys η2 ws H2 h2 e2 R2 r2 => k _ η2 _ H2 h2 (e1.trans e2) R2 ((rr.car e2.car).app r2)⟩
 ·cases h1
def tFmtP (te : TEp) : TEp := fun η P => te η fun x η1 => match x with
 | .str y => y.length ≤ sizeLine ∧ P (.str y) η1
 | .int i => i.natAbs.log2 < 1920 ∧ P (.str (toString i)) η1
 | _ => False
theorem z_fmt (he : PE X e (up X.K T te)) : PE X (.FormattedValue e (-1) none pos) (up X.K T (tFmtP te)) := by
 refine PE.weak (pe_fmt he) fun σ H Q q => ?_
 obtain ⟨F, η, P, R, h, k⟩ := q
 refine ⟨F, η, _, R, h, fun x η1 v H1 h1 e1 R1 r1 => ?_⟩
 split at h1
 ·exact .inl ⟨_, r1.str_, h1.1, k _ η1 _ H1 h1.2 e1 R1 (by unfold Rep; rfl)⟩
 ·exact .inr ⟨_, r1.int_, h1.1, k _ η1 _ H1 h1.2 e1 R1 (by unfold Rep; rfl)⟩
 ·cases h1
def tJsP : List TEp → Str → EP' → (Str → EP' → Prop) → Prop
 | [], acc, η, P => P acc η
 | t :: ts, acc, η, P => t η fun x η1 => ∃ y : Str, x = .str y ∧ (acc ++ y).length ≤ sizeLine ∧ tJsP ts (acc ++ y) η1 P
def tJoinedP (ts : List TEp) : TEp := fun η P => tJsP ts Str.empty η fun out η' => P (.str out) η'
theorem js_up {K : PySem.W.Frag} {F : Addr → Prop} {σ : St} : ∀ (ts : List TEp) (acc : Str) (η : EP') (H : Hp) (P : Str → EP' → Prop) (Q : Str → Hp → Prop), Rs K T F σ η H → tJsP ts acc η P →
  (∀ out η' H', P out η' → Ext σ η σ η' H H' → Rs K T F σ η' H' → Q out H') → tJs (ts.map (up K T)) acc σ H Q
 | [], acc, η, H, P, Q, R, h, k => k acc η H h .refl R
 | t :: ts, acc, η, H, P, Q, R, h, k => by
  refine ⟨F, η, _, R, h, fun x η1 v H1 h1 e1 R1 r1 => ?_⟩
  obtain ⟨y, rfl, hz, h1⟩ := h1
  exact ⟨y, r1.str_, hz, js_up ts _ η1 H1 P Q R1 h1 fun out η' H' p e2 R2 => k out η' H' p (e1.trans e2) R2⟩
theorem z_js {v1 v2 : Expr} {rest : List Expr} {ts : List TEp} (h : PJ X (v1 :: v2 :: rest) (ts.map (up X.K T))) : PE X (.JoinedStr (v1 :: v2 :: rest) pos) (up X.K T (tJoinedP ts)) := by
 refine PE.weak (pe_joined h) fun σ H Q q => ?_
 obtain ⟨F, η, P, R, h, k⟩ := q
 exact js_up ts Str.empty η H _ _ R h fun out η' H' p e1 R1 => k _ η' _ H' p e1 R1 (by unfold Rep; rfl)
end
theorem reps_rev {K : PySem.W.Frag} {O : Addr → Prop} {H : Hp} : ∀ {zs : List PV} {vs : List V}, Reps K O H zs vs → Reps K O H zs.reverse vs.reverse
 | [], _, h => by cases h.inv0; exact .nil
 | x :: xs, _, h => by
  obtain ⟨v, us, rfl, r, t⟩ := h.inv
  rw [List.reverse_cons, List.reverse_cons]
  exact (reps_rev t).app (.cons r .nil)
theorem vals_rev : ∀ {zs : List V} {ws : List Value}, Vals zs ws → Vals zs.reverse ws.reverse
 | _, _, .nil => .nil
 | _, _, .cons r t => by
  rw [List.reverse_cons, List.reverse_cons]
  exact (vals_rev t).append (.cons r .nil)
theorem val_weak {K : PySem.W.Frag} {T : List (Addr × Str)} {tf : TFp} {σ : St} {H : Hp} {Q : VK} (q : up K T (tValP tf) σ H Q) : upF K T tf σ H Q := by
 obtain ⟨F, η, P, R, h, k⟩ := q
 refine ⟨F, η, _, R, h, fun xs η' a vs H' h1 e1 R1 hn nf hv r => ?_⟩
 refine k _ _ _ _ h1 e1 (R1.shrink fun b z => .inl z) ?_
 unfold Rep
 refine ⟨a, vs, rfl, fun z => ?_, hv, r.mono fun b z => z.elim (fun z => .inl (.inl z)) .inr⟩
 rcases z with z | ⟨j, p, h1, h2⟩
 ·exact nf z
 ·obtain ⟨b, q1, q2, q3⟩ := R1.ow j p h2
  rw [h1] at q1; cases q1
  exact q3 (.inr rfl)
theorem z_setLc {X : Cx} {T : List (Addr × Str)} {y : Str} {py : Pos} {elt tg iter : Expr} {ifs : List Expr} {scope : Scope} {own : List (Str × Nat)} {pos spos : Pos} {i : Nat} {ti : TIp} {g : TGp} {tt : TTp} {te : TEp}
  (pf : PS X (.Assign [.Name y py] (.ListComp elt [⟨tg, iter, ifs, 0⟩] scope pos) spos) (tAsg (tLc (upI X.K T ti) (upGw X.K T (own.map (·.2)) g) (upB X.K T tt) (up X.K T te) (own.map (·.2))) (gName i))) :
  PS X (.Assign [.Name y py] (.ListComp elt [⟨tg, iter, ifs, 0⟩] scope pos) spos) (upS X.K T (tSetP i (tValP (tLcP ti g tt te (own.map (·.2)))))) := by
 refine PS.weak pf fun D σ H q => lc_weak (val_weak ?_)
 obtain ⟨F, η, D', R, h, k1, k2, k3, k4⟩ := q
 exact ⟨F, η, _, R, h, fun x η1 v H1 h1 e1 R1 r => k1 _ _ _ h1 (e1.trans .setv) (R1.setv r)⟩
end Z
namespace Z
open PySem PySem.Spec L2 GenW
open PyProof.Rows hiding St
section
variable {prog : Program} {w : World} {A : Around} {R : GenEnd} {Y : Protocol} {n : Nat} {s0 : Shared} {fs : List Frame} {s : Shared} {env : Env}
abbrev outBy (env : Env) (x : Value) : Sem PySem.Fin := (do noteFrame x env; theTreesLotGoes x : Sem Unit).wrap (fun _ => .raise x) .raise id id
abbrev turnEnd (c : Code) : Flow → Sem PySem.Fin := fun f => match f with
 | .next | .cont => .pure (.again c)
 | .brk => .pure (.done .next)
 | .ret v => .pure (.done (.ret v))
theorem outBy_eq {x : Value} : (((do noteFrame x env; theTreesLotGoes x : Sem Unit).bind fun _ => (.raise x : Sem PySem.Fin))) = outBy env x := by rw [Sem.bind_eq_wrap]
theorem seg_forTurn {tg : Expr} {it : Value} {body : List Stmt}
  (h : wpAny (model prog w) (A.over (.forLoop tg it body [] env) fs) (pyNext it) (fun r s1 => match r with
   | none => Seg (model prog w) A R Y n s0 (.forLoop tg it body [] env) (.pure (.again (.block [] env))) fs s1
   | some v => wpAny (model prog w) (A.over (.forLoop tg it body [] env) fs) (letOwnedTupleGo tg it v) (fun _ s2 => wpAny (model prog w) (A.over (.forLoop tg it body [] env) fs) (assign tg env v) (fun _ s3 =>
     Seg (model prog w) A R Y n s0 (.forLoop tg it body [] env) ((execs body env).wrap (turnEnd (.forLoop tg it body [] env)) (outBy env) id id) fs s3)
     (fun x s' => Seg (model prog w) A R Y n s0 (.forLoop tg it body [] env) (outBy env x) fs s') s2) (fun x s' => Seg (model prog w) A R Y n s0 (.forLoop tg it body [] env) (outBy env x) fs s') s1)
   (fun x s' => Seg (model prog w) A R Y n s0 (.forLoop tg it body [] env) (outBy env x) fs s') s) :
  Seg (model prog w) A R Y n s0 (.forLoop tg it body [] env) ((model prog w).den (.forLoop tg it body [] env)) fs s := by
 show Seg _ A R Y n s0 _ ((forTurn tg it body [] env).onRaise fun x => do noteFrame x env; theTreesLotGoes x) fs s
 unfold forTurn
 rw [Sem.onRaise_eq_wrap, Sem.bind_eq_wrap', Sem.wrap_wrap]
 have ex : ∀ {x : Value} {s' : Shared}, Seg (model prog w) A R Y n s0 (.forLoop tg it body [] env) (outBy env x) fs s' → Seg (model prog w) A R Y n s0 (.forLoop tg it body [] env) ((do noteFrame x env; theTreesLotGoes x : Sem Unit).bind fun _ => (.raise x : Sem PySem.Fin)) fs s' := fun hx => by
  rw [outBy_eq]; exact hx
 refine seg_wrap (wpAny_standAt ?_)
 rw [Sem.bind_eq_wrap', Sem.wrap_wrap]
 refine seg_wrap (wpAny_onRaise (wpAny_mono h (fun r s1 h1 => ?_) fun x s' hx => wpAny_standAt (ex hx)))
 cases r with
 | none => exact h1
 | some v =>
  show Seg _ A R Y n s0 _ (Sem.wrap _ _ _ _ (letOwnedTupleGo tg it v >>= fun _ => _)) fs s1
  rw [Sem.bind_eq_wrap', Sem.wrap_wrap]
  refine seg_wrap (wpAny_mono h1 (fun _ s2 h2 => ?_) fun x s' hx => ex hx)
  show Seg _ A R Y n s0 _ (Sem.wrap _ _ _ _ (assign tg env v >>= fun _ => _)) fs s2
  rw [Sem.bind_eq_wrap', Sem.wrap_wrap]
  refine seg_wrap (wpAny_mono h2 (fun _ s3 h3 => ?_) fun x s' hx => ex hx)
  show Seg _ A R Y n s0 _ (Sem.wrap _ _ _ _ (execs body env >>= fun _ => _)) fs s3
  rw [Sem.bind_eq_wrap', Sem.wrap_wrap]
  refine Eq.mpr (congrArg (fun t => Seg (model prog w) A R Y n s0 (.forLoop tg it body [] env) t fs s3) (Sem.wrap_congr (execs body env) (K' := turnEnd (.forLoop tg it body [] env)) (H' := outBy env) id id (fun f => ?_) (fun e => ?_))) h3
  ·cases f <;> rfl
  ·exact outBy_eq
theorem seg_ForS {c : Code} {tg iter : Expr} {body : List Stmt} {pos : Pos} {K : Flow → Sem PySem.Fin} {J : Value → Sem PySem.Fin} {gd : Bool → Bool} {lv : List Value → List Value} (hs : ∀ x, foldedSetIterable iter env x = pure x)
  (h : wpAny (model prog w) (A.over c fs) (eval iter env) (fun x s1 => wpAny (model prog w) (A.over c fs) (pyIter x) (fun it s2 => ∀ p, Seg (model prog w) A R Y n s0 (.forLoop tg it body [] env) ((model prog w).den (.forLoop tg it body [] env))
    (.ret (fun r => ((match r with | .ok f => (.pure f : Sem Flow) | .error e => .raise e).onRaise (cameBack env)).wrap K J gd lv) none (gd false) (lv []) c p [] :: fs) s2)
    (fun x s' => Seg (model prog w) A R Y n s0 c (J x) fs s') s1) (fun x s' => Seg (model prog w) A R Y n s0 c (J x) fs s') s) :
  Seg (model prog w) A R Y n s0 c ((exec (.For tg iter body [] pos) env).wrap K J gd lv) fs s := by
 rw [exec_For]
 show Seg _ A R Y n s0 c (Sem.wrap _ _ _ _ (standAt pos >>= fun _ => _)) fs s
 rw [Sem.bind_eq_wrap', Sem.wrap_wrap]
 refine seg_wrap (wpAny_standAt ?_)
 show Seg _ A R Y n s0 c (Sem.wrap _ _ _ _ (eval iter env >>= fun _ => _)) fs s
 rw [Sem.bind_eq_wrap', Sem.wrap_wrap]
 refine seg_wrap (wpAny_mono h (fun x s1 h1 => ?_) fun x s' hx => hx)
 show Seg _ A R Y n s0 c (Sem.wrap _ _ _ _ (foldedSetIterable iter env x >>= fun _ => _)) fs s1
 rw [Sem.bind_eq_wrap', Sem.wrap_wrap]
 refine seg_wrap (wpAny_of_eq (hs x) ?_)
 show Seg _ A R Y n s0 c (Sem.wrap _ _ _ _ (standAt iter.pos >>= fun _ => _)) fs s1
 rw [Sem.bind_eq_wrap', Sem.wrap_wrap]
 refine seg_wrap (wpAny_standAt ?_)
 show Seg _ A R Y n s0 c (Sem.wrap _ _ _ _ (holding [x] (pyIter x) >>= fun _ => _)) fs s1
 rw [Sem.bind_eq_wrap', Sem.wrap_wrap]
 refine seg_wrap (wpAny_holding (wpAny_mono h1 (fun it s2 h2 => ?_) fun x s' hx => hx))
 exact seg_call h2
end
section
variable {X : Cx}
def tGForE (wi : TI) (g : TG) (tb : TGn) : TGn := fun D ys σ H => wi σ H fun J H1 => ∃ W : Nat → Nat → List V → St → Hp → Prop, (∃ m, W 0 m ys σ H1) ∧ ∀ i m ys σ H, W i m ys σ H →
 (J.stop i H ∧ D.nx ys σ H) ∨ (J.go i H ∧ ∃ N : List V → St → Hp → Prop, (∀ ys' σ' H', N ys' σ' H' → ∃ m', m' < m ∧ W (i + 1) m' ys' σ' H') ∧ ∀ x H', J.yld i H x H' → g x σ H' fun σ2 H2 => tb { D with nx := N, ct := N, bk := D.nx } ys σ2 H2)
theorem gi_unpin {S : Addr} {ip pl : List (Addr × Obj)} {ys : List V} {σ : St} {H : Hp} {s : Shared} (h : GI X S (ip ++ pl) ys σ H s) : GI X S ip ys σ H s := by
 obtain ⟨acc, c, r, I⟩ := h
 exact ⟨acc, c, r, Inv.unpinned (pins := (S, lstObj acc c) :: ip) (pl := pl) I⟩
theorem gs_for {tg iter : Expr} {body : List Stmt} {wi : TI} {g : TG} {tb : TGn} {pos : Pos} (hp : PassesOwn (model X.prog X.w) X.A X.env X.xe) (hc : X.calm = true) (hi : PI X tg iter wi) (hg : PG X tg g) (hb : GSs X body tb)
  (hs : ∀ x, foldedSetIterable iter X.env x = pure x := by intro _; rfl) : GS X (.For tg iter body [] pos) (tGForE wi g tb) := by
 refine ⟨fun A S ip R n ys s0 c fs K J gd lv s σ H D gc hn k hI ht => ?_⟩
 obtain ⟨acc0, cc0, r0, I0⟩ := hI
 refine seg_ForS hs ?_
 rw [gc.over]
 refine wpAny_mono (hi.run _ s σ H _ I0 ht) (fun v s1 h1 => wpAny_mono h1 (fun itv s2 h2 => ?_) fun x s' hx => k.exc n s0 x s' hx) fun x s' hx => k.exc n s0 x s' hx
 obtain ⟨it, fp, tn, Jt, H2, e, I2, T, st2, f2, W, ⟨m0, w0⟩, turn⟩ := h2
 subst e
 intro p
 have stat : ∀ {H' : Hp} {acc : Array Value} {cc : Nat}, (∀ b ∈ fp, H' b = none) → ∀ b ∈ fp, FpOk X ((S, lstObj acc cc) :: ip) H' b := fun {H' acc cc} hn b hb => by
  obtain ⟨_, a1, a2, a3, a4, a5⟩ := f2 b hb
  refine ⟨hn b hb, a1, a2, a3, a4, fun q hq => ?_⟩
  rcases List.mem_append.mp hq with z | z
  ·exact a5 q (List.mem_append_left _ z)
  ·rcases List.mem_cons.mp z with z | z
   ·rw [z]
    exact a5 (S, lstObj acc0 cc0) (List.mem_append_right _ List.mem_cons_self)
   ·exact a5 q (List.mem_append_right _ (List.mem_cons_of_mem _ z))
 have gl := fun (kk : Result → Sem PySem.Fin) => gc_loop (k := kk) (c' := .forLoop tg (.ref it) body [] X.env) (l := lv []) (kp := []) (p := p) gc rfl rfl
 have loop : ∀ (m i n : Nat) (ys : List V) (s0 s : Shared) (σ : St) (H : Hp), n + ys.length = sizeLine → W i m ys σ H → GI X S ip ys σ H s → tn i s.heap → (∀ b ∈ fp, H b = none) →
   Seg (model X.prog X.w) A R (GY X S) n s0 (.forLoop tg (.ref it) body [] X.env) ((model X.prog X.w).den (.forLoop tg (.ref it) body [] X.env))
    (.ret (fun r => ((match r with | .ok f => (.pure f : Sem Flow) | .error e => .raise e).onRaise (cameBack X.env)).wrap K J gd lv) none (gd false) (lv []) c p [] :: fs) s := by
  intro m
  induction m using Nat.strongRecOn with
  | ind m ih =>
   intro i n ys s0 s σ H hn w hI st fr
   have ee : ∀ (n : Nat) (s0 : Shared) (x : Value) (s' : Shared), X.xe x s' → Seg (model X.prog X.w) A R (GY X S) n s0 (.forLoop tg (.ref it) body [] X.env) (outBy X.env x)
     (.ret (fun r => ((match r with | .ok f => (.pure f : Sem Flow) | .error e => .raise e).onRaise (cameBack X.env)).wrap K J gd lv) none (gd false) (lv []) c p [] :: fs) s' := fun n s0 x s' hx => by
    refine seg_wrap ?_
    rw [(gl _).over]
    refine wpAny_bind (wpAny_mono (hp x s' hx) (fun _ s'' hcb => wpAny_theTreesLotGoes ?_) fun y s'' hcb => ?_)
    ·exact seg_leaf (.error x) (seg_cameBack gc k hcb)
    ·exact seg_leaf (.error y) (seg_cameBack gc k hcb)
   refine seg_forTurn ?_
   simp only [(gl _).over]
   obtain ⟨acc, cc, r, I⟩ := hI
   rcases turn i m ys σ H w with ⟨stop, q⟩ | ⟨go, N, hN, step⟩
   ·refine wpAny_mono (T.done X rfl rfl rfl hc i _ s σ H X.xe I (stat fr) st stop) (fun rr s4 ⟨hr, I4⟩ => ?_) fun x s' hx => ee n s0 x s' hx
    subst hr
    refine seg_again rfl ?_
    show Seg _ A R (GY X S) n s0 _ ((execs [] X.env).onRaise _ >>= fun f => _) _ s4
    rw [Sem.onRaise_eq_wrap, Sem.bind_eq_wrap', Sem.wrap_wrap]
    exact seg_execs_nil (seg_leaf (.ok .next) (k.ok n ys s0 s4 .next hn ⟨σ, H, ⟨acc, cc, r, I4⟩, q⟩))
   ·refine wpAny_mono (T.item X rfl rfl rfl hc i _ s σ H X.xe I (stat fr) st go) (fun rr s4 ⟨u, hr, h4⟩ => ?_) fun x s' hx => ee n s0 x s' hx
    subst hr
    refine wpAny_mono h4 (fun _ s5 ⟨x, H5, I5, r5, y5, st5, fr5⟩ => ?_) fun x s' hx => ee n s0 x s' hx
    have I5' := I5.pinned (stat fr5) (T.obj _ _ st5)
    refine wpAny_mono (hg.run _ s5 σ H5 x u _ I5' r5 (step x H5 y5)) (fun _ s6 ⟨σ6, H6, I6, q6⟩ => ?_) fun x s' hx => ee n s0 x s' hx
    have hip : ∀ q ∈ ip ++ pinsAt fp s5.heap, q.1 ≠ S := fun q hq => by
     rcases List.mem_append.mp hq with z | z
     ·exact gc.ip q z
     ·obtain ⟨_, _, _, _, _, a5⟩ := f2 q.1 (of_pinsAt z).1
      exact fun e => a5 (S, lstObj acc0 cc0) (List.mem_append_right _ List.mem_cons_self) e.symm
    have gl2 : ∀ kk : Result → Sem PySem.Fin, GC X S (ip ++ pinsAt fp s5.heap) A (.forLoop tg (.ref it) body [] X.env) (.ret kk none (gd false) (lv []) c p [] :: fs) id := fun kk => { gl kk with ip := hip }
    refine hb.run A S (ip ++ pinsAt fp s5.heap) R n ys s0 _ _ _ _ id id s6 σ6 H6 { D with nx := N, ct := N, bk := D.nx } (gl2 _) hn ⟨fun n' ys' s0' s7 f hn' hsp => ?_, fun n' s0' x s3 hx => ee n' s0' x s3 hx⟩ ⟨acc, cc, r, I6⟩ q6
    have again : ∀ {σ7 : St} {H7 : Hp}, GI X S (ip ++ pinsAt fp s5.heap) ys' σ7 H7 s7 → N ys' σ7 H7 → Seg (model X.prog X.w) A R (GY X S) n' s0' (.forLoop tg (.ref it) body [] X.env) (.pure (.again (.forLoop tg (.ref it) body [] X.env)))
      (.ret (fun r => ((match r with | .ok f => (.pure f : Sem Flow) | .error e => .raise e).onRaise (cameBack X.env)).wrap K J gd lv) none (gd false) (lv []) c p [] :: fs) s7 := fun {σ7 H7} I7 n7 => by
     obtain ⟨m', hm, w7⟩ := hN ys' σ7 H7 n7
     obtain ⟨acc7, cc7, r7, J7⟩ := id I7
     refine seg_again rfl (ih m' hm (i + 1) n' ys' s0' s7 σ7 H7 hn' w7 (gi_unpin I7) (T.keep _ _ _ st5 fun b hb o e => ?_) fun b hb => ?_)
     ·exact (J7.pin (b, o) (List.mem_append_right _ (List.mem_cons_of_mem _ (List.mem_append_right _ (mem_pinsAt hb e))))).1
     ·obtain ⟨o, e, d⟩ := T.obj _ _ st5 b hb
      exact (J7.pin (b, o) (List.mem_append_right _ (List.mem_cons_of_mem _ (List.mem_append_right _ (mem_pinsAt hb e))))).2.1
    cases f with
    | next => obtain ⟨σ7, H7, I7, n7⟩ := hsp; exact again I7 n7
    | cont => obtain ⟨σ7, H7, I7, n7⟩ := hsp; exact again I7 n7
    | brk => obtain ⟨σ7, H7, I7, q7⟩ := hsp; exact seg_leaf (.ok .next) (k.ok n' ys' s0' s7 .next hn' ⟨σ7, H7, gi_unpin I7, q7⟩)
    | ret v => obtain ⟨x7, σ7, H7, I7, rv7, q7⟩ := hsp; exact seg_leaf (.ok (.ret v)) (k.ok n' ys' s0' s7 (.ret v) hn' ⟨x7, σ7, H7, gi_unpin I7, rv7, q7⟩)
 exact loop m0 0 n ys s0 s2 σ H2 hn w0 ⟨acc0, cc0, r0, I2⟩ st2 fun b hb => (f2 b hb).1
end
end Z
namespace Z
open PySem PySem.Spec L2 GenW
open PyProof.Rows hiding St
def spField (K : PySem.W.Frag) (C : Addr) (fl : Str) : SpG := fun vs H cont _ => ∃ a dx fs q qs, vs = [.ref a] ∧ H a = some (.ins C dx fs) ∧ fs.lookup fl = some (.ref q) ∧ SqT K H q qs ∧ qs.length < 1000 ∧ cont qs H
theorem wfor_field {X : Cx} {C a q : Addr} {fl : Str} {qs : List V} {H : Hp} {cont : List V → Hp → Prop} {dx : Addr} {fs : List (Str × V)} (hH : H a = some (.ins C dx fs)) (hf : fs.lookup fl = some (.ref q)) (hq : SqT X.K H q qs) (hl : qs.length < 1000) (c : Cls X.K C) (n : NoAttr X.K C fl) (hc : cont qs H) :
  tGThen (tGForE (iTup X.K (tFld X.K (tVar 0) fl)) (gName 1) (tGThen (tGYield (tVar 1)) tG0)) tG0 { nx := fun ys _ H' => cont ys H', rt := fun ys v H' => v = .non ∧ cont ys H' } [] [some (.ref a), none] H := by
 have sz : 1000 < sizeLine := by decide
 refine ⟨.ref a, rfl, a, C, dx, fs, .ref q, rfl, hH, c, n, hf, q, rfl, ⟨qs, hq⟩, ?_⟩
 refine ⟨fun i m ys σ H' => m = qs.length - i ∧ i ≤ qs.length ∧ ys = qs.take i ∧ (∃ r, σ = [some (.ref a), r]) ∧ H' = H, ⟨qs.length, rfl, Nat.zero_le _, rfl, ⟨none, rfl⟩, rfl⟩, ?_⟩
 rintro i m ys σ H' ⟨rfl, hi, rfl, ⟨r, rfl⟩, rfl⟩
 by_cases hlt : i < qs.length
 ·refine .inr ⟨⟨qs, qs[i], hq, by simp [hlt]⟩, fun ys' σ' H'' => ys' = qs.take (i + 1) ∧ (∃ r, σ' = [some (.ref a), r]) ∧ H'' = H', ?_, ?_⟩
  ·rintro ys' σ' H'' ⟨rfl, ⟨r, rfl⟩, rfl⟩
   exact ⟨qs.length - (i + 1), by omega, rfl, hlt, rfl, ⟨_, rfl⟩, rfl⟩
  ·rintro x H'' ⟨rfl, hx⟩
   have hxi := hx qs hq
   refine ⟨by rw [List.length_take]; omega, x, rfl, ?_, ⟨_, rfl⟩, rfl⟩
   rw [List.take_succ, hxi]
   rfl
 ·have e : i = qs.length := by omega
  subst e
  exact .inl ⟨⟨qs, hq, Nat.le_refl _⟩, by rw [List.take_length]; exact hc⟩
theorem gfn_walk {P : Program} {w : World} {K : PySem.W.Frag} {mg : Str → Option Value} {base : Heap} {x qual : Str} {st : Stmt} {f C : Addr} {fd : FuncData} {fl : Str} (F : Fun K x qual st f fd) (S : GScope ["self", "row"] ["self"] (defScope st)) (c : Cls K C) (n : NoAttr K C fl) (k : Nat)
  (hb : ∀ (cdv : Value) (A : Around) (outer : List Env) (s : Shared) (H : Hp) (E : XK) (pn : List (Addr × Obj)), GSs (gcxOf P w K mg base ["self", "row"] qual (defScope st) f cdv A outer s H E pn) (defBody st) (tGThen (tGForE (iTup K (tFld K (tVar 0) fl)) (gName 1) (tGThen (tGYield (tVar 1)) tG0)) tG0)) :
  GFn P w K mg base (k + 1) f fd ["self"] (spField K C fl) := by
 obtain ⟨oc, od, kV, doc, pm, an, cdv, ct, osl, rfl, lk, hcd⟩ := F.ex
 refine gfn_of lk hcd S (fun vs H Q E h => ?_) fun A outer s H vs Q E pn hr h => ?_
 ·obtain ⟨a, dx, fs, q, qs, rfl, _⟩ := h; rfl
 ·obtain ⟨a, dx, fs, q, qs, rfl, hH, hf, hq, hl, hc⟩ := h
  exact ⟨_, hb cdv A outer s H E pn, wfor_field (X := gcxOf P w K mg base ["self", "row"] qual (defScope st) f cdv A outer s H E pn) hH hf hq hl c n hc⟩
section
variable {X : Cx} {T : List (Addr × Str)} {k : Nat} {C f : Addr} {fd : FuncData} {o : Expr} {ta : TEp} {m fl nm : Str} {pos pos' apos p : Pos}
theorem passCX : Passes (CX X.prog X.w) X E0 := fun _ _ _ _ _ _ _ h => by
 obtain ⟨a, B, H', cls, d, _, _, _, _, _, _, _, z⟩ := h
 exact z.elim
def tListWP (C : Addr) (m fl : Str) (ta : TEp) : TEp := fun η P => ta η fun x η1 => ∃ fs qs, x = .ins C fs ∧ fs.lookup m = none ∧ fs.lookup fl = some (.tup qs) ∧ qs.length < 1000 ∧ P (.lst qs) η1
theorem z_listW {pl : Sem Bool} (ho : PE X o (up X.K T ta)) (c : Cls X.K C) (hm : Meth X.K C m f) (G : GFn X.prog X.w X.K X.mg X.base k f fd ["self"] (spField X.K C fl)) (hr : Room (k + 3) X.A) (hb : Binds X.K fd ["self"] []) (hg : Gl X nm) (hmg : X.mg nm = none) (hv : bootBuiltins nm = some (.type "list"))
  (hnm : nm ≠ "__name__" := by decide) (hdb : (nm == ("__debug__" : Str)) = false := by decide)
  (ht : eval (.Call (.Attribute o m apos) [] [] pos') X.env = (do
   let ov ← eval o X.env
   standAt apos.atName
   let (f, first) ← holding [ov] (getMethod ov m pl)
   callWith pos' f first (backTo pos' (starEach [] X.env)) (backToKw pos' (keywordEach [] X.env))) := by rfl)
  (he : starEach [.Call (.Attribute o m apos) [] [] pos'] X.env = (false, eval (.Call (.Attribute o m apos) [] [] pos') X.env) :: starEach [] X.env := by rfl) :
  PE X (.Call (.Name nm p) [.Call (.Attribute o m apos) [] [] pos'] [] pos) (up X.K T (tListWP C m fl ta)) := by
 refine PE.weak (pe_listG (E := E0) (pgen_meth0 (pl := pl) ho c hm G (hr.mono (Nat.le_add_right _ _)) hb .nil ht) passCX (fun _ _ _ z => z.elim) hr hg hmg hv hnm hdb he) fun σ H Q q => ?_
 obtain ⟨F, η, P, R, h, kk⟩ := q
 refine ⟨F, η, _, R, h, fun x η1 v H1 h1 e1 R1 r1 => ?_⟩
 obtain ⟨fs, qs, rfl, l1, l2, hl, h1⟩ := h1
 obtain ⟨a, dx, ws, rfl, na, q', rr⟩ := r1.ins_
 obtain ⟨w, hw, rw'⟩ := (rr.look fl).1 _ l2
 obtain ⟨b, vs, rfl, hq, rv⟩ := rw'.tup_
 refine ⟨a, dx, ws, rfl, q', (rr.look m).2 l1, a, dx, ws, b, vs, rfl, q', hw, hq.sq, by rw [rv.len]; exact hl, fun p hp => ?_⟩
 exact kk _ η1 _ _ h1 (e1.trans (.same (Same.new hp))) (R1.same (Same.new hp)) (rep_newL R1.trO hp rv)
end
section
variable {X : Cx} {T : List (Addr × Str)} {k : Nat} {C f : Addr} {fd : FuncData} {ps : List Str} {sp : Sp} {e : Expr} {es : List Expr} {t : TAp} {x : Str} {p pos : Pos}
theorem call_reprO (F : FnOk X.prog X.w X.K X.mg X.base CX0 k f fd ps sp) (hr : Room (k + 1) X.A) (hs : PySem.W.findIn X.K (.ref C) "__repr__" = some (some (.ref f))) (hf : PySem.W.isFn X.K (.ref f) = true) (hb : Binds X.K fd ps []) : CallR X (.builtin "repr") (rStrO C sp) := by
 intro pins s σ H xs us Q I r h
 obtain ⟨a, dx, fs, rfl, ha, hsp⟩ := h
 obtain rfl := Vals.ref1 r
 obtain ⟨mA, J, _⟩ := ins_get I.hok ha
 obtain ⟨od, J, _⟩ := J.look
 obtain ⟨m, hF⟩ := I.fr
 refine PySem.W.repr_K hr.in1.units0 hF I.ok.mod.kin J hs hf ?_
 refine wpAny_mono (run_at F rfl hr.in1 hb I r hsp) (fun v s' ⟨z, H', I', rz, y, ez, q⟩ => ?_) fun _ _ e => e
 subst ez
 obtain ⟨t, rfl⟩ : ∃ t, v = Value.str y t := rz
 exact ⟨.str y, H', I', ⟨t, rfl⟩, q⟩
theorem z_reprO {sp : SpP} (hc : CallR X (.builtin "repr") (rStrO C (upSp X.K T sp))) (hg : Gl X x) (hm : X.mg x = none) (hv : bootBuiltins x = some (.builtin "repr")) (ha : PA X (e :: es) (upA X.K T t)) (hn : x ≠ "__name__" := by decide) (hdb : (x == ("__debug__" : Str)) = false := by decide)
  (he : starEach (e :: es) X.env = (false, eval e X.env) :: starEach es X.env := by rfl) (hpl : (backTo pos (starEach es X.env)).any (·.1) = false := by rfl) : PE X (.Call (.Name x p) (e :: es) [] pos) (up X.K T (tStrOP C sp t)) := by
 refine PE.weak (pe_callB hc hg hm hv ha hn hdb he hpl) fun σ H Q q => ?_
 obtain ⟨F, η, P, R, h, kk⟩ := q
 refine ⟨F, η, _, R, h, fun xs η1 v H1 h1 e1 R1 r1 => ?_⟩
 obtain ⟨fs, rfl, h1⟩ := h1
 obtain ⟨v1, rfl, r2⟩ := r1.one
 obtain ⟨a', dx, ws, rfl, na, q', rr⟩ := id r2.ins_
 exact ⟨a', dx, ws, rfl, q', Oof F σ η1, _, _, R1.trO, R1.tb, .cons r2 .nil, h1, fun z v H3 ⟨⟨y, ez⟩, pz⟩ g tb rz => ⟨y, by rw [ez] at rz; exact rz.str_, kk _ η1 _ H3 pz (e1.trans g.ext) (R1.gr g tb) rz⟩⟩
end
def intsOf : List PV → Option (List Int)
 | [] => some []
 | .int i :: r => (intsOf r).map (i :: ·)
 | _ => none
theorem intsOf_map : ∀ ns : List Int, intsOf (ns.map .int) = some ns
 | [] => rfl
 | n :: ns => by rw [List.map_cons, intsOf, intsOf_map ns]; rfl
theorem ints_holds {K : PySem.W.Frag} {O : Addr → Prop} {H : Hp} {h : Heap} : ∀ {xs : List PV} {vs : List V} {us : List Value} {ns : List Int}, Reps K O H xs vs → Vals vs us → intsOf xs = some ns → PySem.W.HoldAll h us ns
 | [], _, _, _, r, rv, e => by
  cases r.inv0; cases rv; cases e
  exact .nil
 | x :: xs, _, _, ns, r, rv, e => by
  obtain ⟨v, vs, rfl, r1, r2⟩ := r.inv
  cases rv with
  | cons a b =>
   cases x with
   | int i =>
    rw [intsOf] at e
    obtain ⟨ms, e1, rfl⟩ := Option.map_eq_some_iff.mp e
    rw [r1.int_] at a
    obtain ⟨t, rfl⟩ := a
    exact .cons (PySem.W.holds_int _ _) (ints_holds r2 b e1)
   | _ => cases e
def maxI (d : Int) : List Int → Int
 | [] => d
 | n :: ns => PySem.W.maxOf n ns
def rMaxD : List V → List V → Hp → VK → Prop := fun xs zs H Q => ∃ a vs ns d, xs = [.ref a] ∧ zs = [.int d] ∧ H a = some (.lst vs) ∧ (∀ h : Heap, ∀ us, Vals vs us → PySem.W.HoldAll h us ns) ∧ Q (.int (maxI d ns)) H
section
variable {X : Cx} {T : List (Addr × Str)} {e : Expr} {es : List Expr} {kws : List Keyword} {t tk : TAp} {x : Str} {p pos : Pos}
theorem call_maxD (hc : X.calm = true) (hu : X.A.units + 64 < cLine) : CallRK X (.builtin "max") [("default" : Str)] rMaxD := by
 intro pins s σ H xs zs us ws Q I r rz h
 obtain ⟨a, vs, ns, d, rfl, rfl, ha, hh, q⟩ := h
 obtain rfl := Vals.ref1 r
 cases rz with
 | cons r1 r2 =>
  cases r2
  obtain ⟨t, rfl⟩ := r1
  obtain ⟨_, its, n, rv, eh⟩ := I.hok a _ ha
  have hl : s.heap.IsList a its.toArray := ⟨_, eh, rfl, n, rfl⟩
  refine PySem.W.max_list_datum_default (xs := ns) (I.ok.hd hc) hl (by simpa using hh s.heap its rv) (by show X.A.units + 1 + 0 < cLine; omega) (fun e h' tk k => ?_) fun y ys i v h' tk e hi hv k => ?_
  ·subst e
   exact ⟨.int d, H, I.kept k, ⟨_, rfl⟩, q⟩
  ·subst e
   obtain ⟨as, rd⟩ := hv
   cases rd with
   | int j t => exact ⟨.int _, H, I.kept k, ⟨_, rfl⟩, q⟩
def tMaxDP (t tk : TAp) : TEp := fun η P => t η fun xs η1 => tk η1 fun zs η2 => ∃ ys ns d, xs = [.lst ys] ∧ zs = [.int d] ∧ intsOf ys = some ns ∧ P (.int (maxI d ns)) η2
theorem z_maxD (hcm : X.calm = true) (hu : X.A.units + 64 < cLine) (hg : Gl X x) (hm : X.mg x = none) (hv : bootBuiltins x = some (.builtin "max")) (ha : PA X (e :: es) (upA X.K T t)) (hk : PK X kws (upA X.K T tk)) (hn : x ≠ "__name__" := by decide) (hdb : (x == ("__debug__" : Str)) = false := by decide)
  (he : backTo pos (starEach (e :: es) X.env) = (false, eval e X.env) :: backTo pos (starEach es X.env) := by rfl) (hpl : (backTo pos (starEach (e :: es) X.env)).any (·.1) = false := by rfl)
  (hall : (backToKw pos (keywordEach kws X.env)).all (·.1.isSome) = true := by rfl) (hnone : (backToKw pos (keywordEach kws X.env)).any (·.1.isNone) = false := by rfl) (hks : (backToKw pos (keywordEach kws X.env)).filterMap (·.1) = [("default" : Str)] := by rfl) :
  PE X (.Call (.Name x p) (e :: es) kws pos) (up X.K T (tMaxDP t tk)) := by
 refine PE.weak (pe_callBK (call_maxD hcm hu) hg hm hv ha hk hn hdb he hpl hall hnone hks) fun σ H Q q => ?_
 obtain ⟨F, η, P, R, h, kk⟩ := q
 refine ⟨F, η, _, R, h, fun xs η1 vs H1 h1 e1 R1 r1 => ⟨F, η1, _, R1, h1, fun zs η2 ws H2 h2 e2 R2 r2 => ?_⟩⟩
 obtain ⟨ys, ns, d, rfl, rfl, hi, h2⟩ := h2
 obtain ⟨v, rfl, rl⟩ := (r1.car e2.car).one
 obtain ⟨v2, rfl, rd⟩ := r2.one
 obtain ⟨a, us, rfl, na, q', rr⟩ := rl.lst_
 rw [rd.int_]
 exact ⟨a, us, ns, d, rfl, rfl, q', fun h us' rv => ints_holds rr rv hi, kk _ η2 _ H2 h2 (e1.trans e2) R2 (by unfold Rep; rfl)⟩
end
end Z
namespace Z
open PySem PySem.Spec L2 StX
open PyProof.Rows hiding St
end Z
namespace Z
open PySem PySem.Spec L2 StX
open PyProof.Rows hiding St
end Z
namespace Z
open PySem PySem.Spec L2 StX
open PyProof.Rows hiding St
section
variable {X : Cx} {T : List (Addr × Str)} {C : Addr} {sp : SpP} {m : Str} {e : Expr} {ta : TEp}
theorem z_methP {t : TAp} {dvs : List V} {dps : List PV} (hp : ∀ O H, Reps X.K O H dps dvs)
  (pf : PE X e (tMeth C m (upSp X.K T sp) dvs E0 (up X.K T ta) (upA X.K T t))) : PE X e (up X.K T (tMethP C m sp dps ta t)) :=
 PE.weak pf fun σ H Q q => meth_up hp q
end
def pick {α : Type} (is : List Nat) (xs : List α) : List α := is.filterMap fun i => xs[i]?
structure KwB (K : PySem.W.Frag) (fd : FuncData) (ps : List Str) (n : Nat) (ks : List Str) (is : List Nat) : Prop where
 to : ∀ (s : Shared) (us ws : List Value), K.In s.heap → us.length = n → ws.length = ks.length → BindsTo s fd ⟨us, ks.zip ws⟩ (ps.zip (us ++ pick is ws))
 ln : n + is.length = ps.length ∧ ∀ i ∈ is, i < ks.length
end Z
namespace Z
open PySem
open Sem (wp)
def stung : GenState → GenState
 | .suspended _ l c p fs _ => .suspended (fun _ => .unsupported "") l c p fs false
 | x => x
def sleeps : GenState → Bool
 | .suspended .. => true
 | _ => false
def isGenF : Frame → Bool
 | .gen .. => true
 | _ => false
def NoG (fs : List Frame) : Prop := ∀ F ∈ fs, isGenF F = false
def NoGS : GenState → Prop
 | .suspended _ _ _ _ fs _ => NoG fs
 | _ => True
def pickG (y : Option GenState) (x : GenState) : GenState := match y with
 | some y => if sleeps y = true then y else x
 | none => x
def un (G : Array GenState) (s : Shared) : Shared := { s with gens := s.gens.mapIdx fun i x => pickG G[i]? x }
structure Good (G : Array GenState) (s : Shared) : Prop where
 sz : G.size ≤ s.gens.size
 sl : ∀ (i : Nat) (y : GenState), G[i]? = some y → sleeps y = true → s.gens[i]? = some (stung y)
 no : ∀ (i : Nat) (x : GenState), (∀ y, G[i]? = some y → sleeps y = false) → s.gens[i]? = some x → NoGS x
section
variable {G : Array GenState} {s : Shared}
theorem Good.of {s' : Shared} (g : Good G s) (e : s'.gens = s.gens) : Good G s' := ⟨by rw [e]; exact g.sz, by rw [e]; exact g.sl, by rw [e]; exact g.no⟩
end
end Z
namespace Z
open PySem L2
open Sem (wp)
open PyProof.Rows hiding St
section
variable {M : Model} {G : Array GenState}
def Still (G : Array GenState) (s : Shared) : Prop := ∀ (i : Nat) (y : GenState), G[i]? = some y → sleeps y = true → s.gens[i]? = some y
end
end Z
namespace Z
open PySem PySem.Spec L2 GenW
open PyProof.Rows hiding St
structure WRel (it L : Addr) (s0 s : Shared) : Prop where
 os : s.os = s0.os
 gens : s.gens = s0.gens
 keep : ∀ b o, b ≠ it → b ≠ L → s0.heap.get? b = some o → s.heap.get? b = some o
def TupQ (qs : List V) (q : Addr) (h : Heap) : Prop := ∃ its : List Value, Vals qs its ∧ h.IsTuple q its.toArray
structure WAt (it L q : Addr) (i : Nat) (h : Heap) : Prop where
 ns : ∃ m, h.Ns L m
 it : h.IsTupleIter it q i
def YW (it L q : Addr) (qs : List V) (N : Nat) : Protocol := fun n s0 v s1 kap =>
 ∃ i x, n + (i + 1) = N ∧ qs[i]? = some x ∧ RelV x v ∧ WRel it L s0 s1 ∧ WAt it L q (i + 1) s1.heap ∧ ∀ s'', WAt it L q (i + 1) s''.heap → TupQ qs q s''.heap → kap (.send .none) s'' ∧ kap (.send (.bool true)) s''
def FW (it L : Addr) (qs : List V) (N n : Nat) (s0 s1 : Shared) : Prop := N = n + qs.length ∧ WRel it L s0 s1
def RW (it L : Addr) (qs : List V) (N : Nat) : GenEnd := fun n s0 r s1 => ((r = .ok (.ret .none) ∨ r = .ok .next) ∧ FW it L qs N n s0 s1) ∨ ∃ e, r = .error e ∧ False
theorem WRel.refl {it L : Addr} {s : Shared} : WRel it L s s := ⟨rfl, rfl, fun _ _ _ _ e => e⟩
theorem WRel.trans {it L : Addr} {s0 s1 s2 : Shared} (a : WRel it L s0 s1) (b : WRel it L s1 s2) : WRel it L s0 s2 := ⟨b.os.trans a.os, b.gens.trans a.gens, fun c o h1 h2 e => b.keep c o h1 h2 (a.keep c o h1 h2 e)⟩
theorem WRel.toks {it L : Addr} {s0 s : Shared} {t : Nat} (a : WRel it L s0 s) : WRel it L s0 { s with toks := t } := ⟨a.os, a.gens, a.keep⟩
section
variable {prog : Program} {w : World} {A : Around} {env : Env} {it L q : Addr} {qs : List V} {p1 p2 p3 p4 p5 p6 p7 : Pos}
abbrev wBody (p4 p5 p6 : Pos) : List Stmt := [.Expr (.Yield (some (.Name "row" p4)) p5) p6]
abbrev wFor (p1 p2 p3 p4 p5 p6 p7 : Pos) (f : Str) : Stmt := .For (.Name "row" p1) (.Attribute (.Name "self" p2) f p3) (wBody p4 p5 p6) [] p7
end
end Z
namespace Z
open PySem PySem.Spec L2 GenW
open PyProof.Rows hiding St
section
variable {P : Program} {w : World} {A : Around} {a it L q : Addr} {g : Nat} {qs : List V}
structure GAt (P : Program) (w : World) (A : Around) (a it L q : Addr) (g : Nat) (qs : List V) (i : Nat) (s : Shared) : Prop where
 gs : ∃ gs : GenState, s.gens[g]? = some gs ∧ sleeps gs = true ∧ gs.bare = true ∧ ∀ s'', WAt it L q i s''.heap → TupQ qs q s''.heap → gs.Goes (model P w) A.in1 (RW it L qs qs.length) (YW it L q qs qs.length) (qs.length - i) (.send .none) s''
 at_ : WAt it L q i s.heap
 gen : s.heap.IsGen a g
structure GStep (it L : Addr) (g : Nat) (s s1 : Shared) : Prop where
 os : s1.os = s.os
 bare : AllBare s.gens → AllBare s1.gens
 keep : ∀ b o, b ≠ it → b ≠ L → s.heap.get? b = some o → s1.heap.get? b = some o
end
end Z
set_option maxHeartbeats 1000000
namespace Z
open PySem PySem.Spec L2 GenW
open PyProof.Rows hiding St
structure WNew (P : Program) (w : World) (fl : Str) (o a L : Addr) (g : Nat) (s : Shared) : Prop where
 gen : s.heap.IsGen a g
 gs : ∃ env p1 p2 p3 p4 p5 p6 p7, s.gens[g]? = some (.fresh (.func [wFor p1 p2 p3 p4 p5 p6 p7 fl] env)) ∧ env.scope.kind = .function ∧ env.kindOf "self" = some .local ∧ env.kindOf "row" = some .local ∧ env.scope.isCoroutine = false ∧
  interactive env = false ∧ env.locals = L ∧ attributeBase (.Name "self" p2) fl env (eval (.Name "self" p2) env) = eval (.Name "self" p2) env
 ns : ∃ m, s.heap.Ns L m ∧ m "self" = some (.ref o)
structure WMade (P : Program) (w : World) (fl : Str) (o : Addr) (s : Shared) (u : Value) (s' : Shared) : Prop where
 ex : ∃ a L g, u = .ref a ∧ s.heap.objs.size ≤ a ∧ s.heap.objs.size ≤ L ∧ WNew P w fl o a L g s'
 os : s'.os = s.os
 bare : AllBare s'.gens
 keep : ∀ b ob, s.heap.get? b = some ob → s'.heap.get? b = some ob
structure WFn (P : Program) (w : World) (K : PySem.W.Frag) (mg : Str → Option Value) (base : Heap) (k : Nat) (f : Addr) (fd : FuncData) (fl : Str) : Prop where
 run : ∀ (A : Around) (outer : List Env) (s : Shared) (H : Hp) (args : Args) (o : Addr), Room k A → Env0 P w K mg base A outer s H → BindsTo s fd args (([("self" : Str)]).zip [Value.ref o]) →
  codeAny (model P w) A (.call (.ref f) args) (fun r s' => match r with | .ok (.ret u) => WMade P w fl o s u s' | _ => False) s
section
variable {X : Cx} {k : Nat} {C f : Addr} {fd : FuncData} {fl m : Str} {o : Expr} {ta : TE} {pos' apos : Pos}
structure PWk (X : Cx) (C : Addr) (fl : Str) (e : Expr) (tw : St → Hp → (Addr → Addr → List V → Hp → Prop) → Prop) : Prop where
 run : ∀ (pins : List (Addr × Obj)) (s : Shared) (σ : L2.St) (H : Hp) (R : Addr → Addr → List V → Hp → Prop), Inv X pins σ H s → tw σ H R → wpAny (model X.prog X.w) X.A (eval e X.env)
  (fun u s' => ∃ o q qs H1 a L g, u = .ref a ∧ Inv X pins σ H1 s' ∧ FpOk X pins H1 a ∧ FpOk X pins H1 L ∧ WNew X.prog X.w fl o a L g s' ∧ (∃ dx fs, H1 o = some (.ins C dx fs) ∧ fs.lookup fl = some (.ref q)) ∧ SqT X.K H1 q qs ∧ qs.length < 1000 ∧ R o q qs H1) X.xe s
end
end Z
namespace Z
open PySem PySem.Spec L2 GenW
open PyProof.Rows hiding St
section
variable {X : Cx} {C : Addr} {fl : Str} {e : Expr} {tw : St → Hp → (Addr → Addr → List V → Hp → Prop) → Prop}
theorem Still.trans {G : Array GenState} {s s' : Shared} (h : Still G s) (k : Still s.gens s') : Still G s' := fun i y e z => k i y (h i y e z) z
end
end Z
namespace Z
open PySem PySem.Spec L2 GenW
open PyProof.Rows hiding St
end Z
namespace Z
open PySem PySem.Spec L2 GenW
open PyProof.Rows hiding St
end Z
namespace Z
open PySem PySem.Spec L2
open PyProof.Rows hiding St
section
variable {X : Cx}
end
end Z
namespace Z
open PySem PySem.Spec L2 HT
open PyProof.Rows hiding St
end Z
namespace Z
open PySem PySem.Spec L2
open PyProof.Rows hiding St
end Z
namespace Z
open PySem PySem.Spec L2
open PyProof.Rows hiding St
section
variable {X : Cx} {T : List (Addr × Str)} {e e2 tg : Expr} {te : TEp} {t : TAp}
end
end Z
namespace Z
open PySem PySem.Spec L2
open PyProof.Rows hiding St
end Z
namespace Z
open PySem PySem.Spec L2
open PyProof.Rows hiding St
end Z
namespace Z
open PySem PySem.Spec L2 GenW
open PyProof.Rows hiding St
end Z
namespace Z
open PySem PySem.Spec L2 GenW
open PyProof.Rows hiding St
end Z
namespace Z
open PySem PySem.Spec L2
open PyProof.Rows hiding St
section
variable {X : Cx}
theorem call_divmodW : CallR X (.builtin "divmod") (fun xs H Q => ∃ i j, xs = [.int i, .int j] ∧ CDivW i j ∧ ∀ p, H p = none → Q (.ref p) (upd H p (.tup [.int (i / j), .int (i % j)]))) := by
 intro pins s σ H xs us Q I r h
 obtain ⟨i, j, rfl, ⟨h1, h2⟩, q⟩ := h
 obtain ⟨u, w', rfl, ⟨t, rfl⟩, ⟨t', rfl⟩⟩ := vals2 r
 refine divmod_int (by omega) ?_ (.inl (PyProof.noPylong_of_log2 h2))
 rw [Int.fdiv_eq_ediv_of_nonneg i (by omega), Int.fmod_eq_emod_of_nonneg i (by omega)]
 have hn : H s.heap.objs.size = none := I.hok.fresh (Nat.le_refl _)
 refine ⟨.ref s.heap.objs.size, _, ?_, rfl, q _ hn⟩
 refine I.laid (fun b o e => Heap.get?_push_of_some _ e) (Nat.le_refl _) ⟨by simp only [List.length_cons, List.length_nil]; rw [sizeLine_eq]; decide, [.int (i / j) s.toks, .int (i % j) (s.toks + 1)], .cons ⟨_, rfl⟩ (.cons ⟨_, rfl⟩ .nil), ?_⟩
 exact ⟨_, Heap.get?_push_size s.heap rfl, rfl, 0, rfl⟩
def rDivmodW : R1p := fun ps P => match ps with
 | [.int i, .int j] => CDivW i j ∧ P (.tup [.int (i / j), .int (i % j)])
 | _ => False
theorem zc_divmodW : CallR X (.builtin "divmod") (r1 X.K rDivmodW) := by
 refine CallR.weak (call_divmodW (X := X)) fun xs H Q h => ?_
 obtain ⟨O, ps, P, tr, hx, h, k⟩ := h
 unfold rDivmodW at h
 split at h
 ·obtain ⟨v, w, rfl, r, r'⟩ := hx.two
  cases r.int_; cases r'.int_
  exact ⟨_, _, rfl, h.1, fun p hp => k.newT h.2 tr (.cons rep_int (.cons rep_int .nil)) hp⟩
 ·cases h
theorem q_divmodW {i j : Int} {P : PV → Prop} (c : CDivW i j) (h : P (.tup [.int (i / j), .int (i % j)])) : rDivmodW [.int i, .int j] P := ⟨c, h⟩
theorem cdivW {i j : Int} (h : 0 < j) (h' : j < 10 ^ 40) : CDivW i j := wide_div (b := 200) h (by
 have : (10 : Int) ^ 40 < 2 ^ 200 := by decide
 omega) (by decide) (by decide)
end
def Kn (K : PySem.W.Frag) (x : PV) : Prop := (tyN x).isSome = true ∨ ∃ C fs, x = .ins C fs ∧ ClsT K C
def isInt : PV → Bool
 | .int _ => true
 | _ => false
def isStn : PV → Bool
 | .int i => decide (0 ≤ i)
 | _ => false
def isLat (s : Int) : PV → Bool
 | .int i => decide (s < i)
 | _ => false
def abc : Str := ("abcdefghijklmnopqrstuvwxyz" : Str)
def isNm : PV → Bool
 | .str z => decide (1 ≤ z.length) && (decide (z.length ≤ 8) && z.cps.toList.all fun c => decide (c ∈ abc.cps.toList))
 | _ => false
abbrev Trip := Str × Int × Int
def rowP (r : Trip) : PV := .tup [.str r.1, .int r.2.1, .int r.2.2]
def rowsP (rs : List Trip) : PV := .tup (rs.map rowP)
structure Rw (rs : List Trip) : Prop where
 len : rs.length ≤ 24
 each : ∀ r ∈ rs, isNm (.str r.1) = true ∧ 0 ≤ r.2.1 ∧ r.2.1 < r.2.2
 asc : rs.Pairwise fun a b => a.1.cps.toList < b.1.cps.toList
def queueP (rs : List Trip) : PV := .tup ((rs.map rowP).mergeSort (PySem.W.dataLe false (keyP 1 0)))
def lineF (n : Int) (rs : List Trip) : List (Str × PV) := [(("seat_count" : Str), .int n), (("rows" : Str), rowsP rs), (("queue" : Str), queueP rs)]
def lineP (C : Addr) (n : Int) (rs : List Trip) : PV := .ins C (lineF n rs)
abbrev PrP := PySem.W.Frag → Addr → SpP
def sp_is_integer : PrP := fun K _ args P => ∃ x, args = [x] ∧ Kn K x ∧ P (.bl (isInt x))
def sp_is_station : PrP := fun K _ args P => ∃ x, args = [x] ∧ Kn K x ∧ P (.bl (isStn x))
def sp_is_later : PrP := fun K _ args P => ∃ x s, args = [x, .int s] ∧ Kn K x ∧ P (.bl (isLat s x))
def sp_is_trip_name : PrP := fun K _ args P => ∃ x, args = [x] ∧ Kn K x ∧ (∀ z, x = .str z → z.length ≤ sizeLine) ∧ P (.bl (isNm x))
def sp_Line_trips : PrP := fun K C args P => ∃ n rs, args = [lineP C n rs] ∧ P (rowsP rs)
def sp_law_cell : PrP := fun K _ args P => ∃ ns k, args = [.scr ns, .int k] ∧ 0 ≤ k ∧ k < 100 ∧ ∀ c, P (.int c)
def sp_law_pool : PySem.W.Frag → Addr → SpF := fun K _ args P => ∃ c, args = [.int c] ∧ ∀ s d, 0 ≤ s → s < 1000000007 → 0 ≤ d → P [.int s, .int d, .int 0]
def Pool (o : Ow) : Prop := ∃ s d c, o = .l [.int s, .int d, .int c] ∧ 0 ≤ s ∧ s < 1000000007 ∧ 0 ≤ d
abbrev PrR := PySem.W.Frag → Addr → SpR
def sp_law_draw : PrR := fun K _ o args P => ∃ m : Int, Pool o ∧ args = [.int m] ∧ 0 < m ∧ m < 10 ^ 40 ∧ ∀ o' (k : Int), Pool o' → 0 ≤ k → k < m → P (.int k) o'
def Nms (ws : List Str) : Prop := (∀ w ∈ ws, isNm (.str w) = true) ∧ ws.Nodup
def sp_law_words : PrR := fun K _ o args P => ∃ m : Int, Pool o ∧ args = [.int m] ∧ 0 ≤ m ∧ m ≤ 24 ∧ ∀ o' ws, Pool o' → ws.length = m.toNat → Nms ws → P (.lst (ws.map .str)) o'
def sp_law_far : PrR := fun K _ o args P => ∃ h : Int, Pool o ∧ args = [.int h] ∧ 0 ≤ h ∧ h ≤ 30 ∧ ∀ o' (xs : List Int), Pool o' → xs.length = (h + 1).toNat → xs.Pairwise (· < ·) → (∀ x ∈ xs, 0 ≤ x ∧ x < 10 ^ 40) → P (.lst (xs.map .int)) o'
def sp_law_rides : PrR := fun K _ o args P => ∃ ws h, Pool o ∧ args = [.lst (ws.map .str), .int h] ∧ Nms ws ∧ ws.length ≤ 24 ∧ 1 ≤ h ∧ h ≤ 30 ∧ ∀ o' rs, Pool o' → Rw rs → rs.length = ws.length → (∀ r ∈ rs, r.1 ∈ ws ∧ r.2.2 < 10 ^ 40) → P (rowsP rs) o'
def ts_is_integer (K : PySem.W.Frag) (CLine : Addr) : TSp := tRetP (tAndVP (tCBP (rIsI K) (tConsP (tVarP 0) (tConsP (tConP (.raw (.ty "int"))) (tNilP)))) (tNotVP (tCBP (rIsI K) (tConsP (tVarP 0) (tConsP (tConP (.raw (.ty "bool"))) (tNilP))))))
def ts_is_station (K : PySem.W.Frag) (CLine : Addr) : TSp := tRetP (tAndVP (tCallP (sp_is_integer K CLine) [] (tConsP (tVarP 0) (tNilP))) (tOpP rGe (tVarP 0) (tConP (.int 0))))
def ts_is_later (K : PySem.W.Frag) (CLine : Addr) : TSp := tRetP (tAndVP (tCallP (sp_is_integer K CLine) [] (tConsP (tVarP 0) (tNilP))) (tOpP rGt (tVarP 0) (tVarP 1)))
def ts_is_trip_name (K : PySem.W.Frag) (CLine : Addr) : TSp := tSeqP (tIfSP (tOrP (tNotP (tBlP (tCBP (rIsI K) (tConsP (tVarP 0) (tConsP (tConP (.raw (.ty "str"))) (tNilP)))))) (tNotP (tBlP (tChainP rLe rLe (tConP (.int 1)) (tCBP rLen (tConsP (tVarP 0) (tNilP))) (tConP (.int 8)))))) (tRetP (tConP (.bl false))) (tNextP)) (tRetP (tCBP rAllP (tConsP (tValP (tLcP (iStrP (tVarP 0)) (gNameP 1) (tYesP) (tOpP (rInS false) (tVarP 1) (tConP (.str ("abcdefghijklmnopqrstuvwxyz" : Str)))) [1])) (tNilP))))
def ts_Line_trips (K : PySem.W.Frag) (CLine : Addr) : TSp := tRetP (tFldP CLine ("rows" : Str) (tVarP 0))
def ts_law_cell (K : PySem.W.Frag) (CLine : Addr) : TSp := tSeqP (tIfSP (tBlP (tOpP rLt (tVarP 1) (tCBP rLen (tConsP (tVarP 0) (tNilP))))) (tRetP (tOpP rIxP (tVarP 0) (tVarP 1))) (tNextP)) (tSeqP (tSetP 2 (tOpP rMod (tOpP rMulA (tConP (.int 50021)) (tOpP rAdd (tOpP rAdd (tOpP rMulA (tVarP 1) (tVarP 1)) (tOpP rMulA (tConP (.int 7)) (tVarP 1))) (tConP (.int 3)))) (tConP (.int 1000000007)))) (tSeqP (tForP (iListP (tSliceP (tVarP 0) (tNoPartP) (tPartP (tConP (.int 3))))) (gNameP 3) (tSetP 2 (tOpP rMod (tOpP rAdd (tOpP rMulA (tVarP 2) (tConP (.int 30011))) (tVarP 3)) (tConP (.int 1000000007))))) (tRetP (tVarP 2))))
def ts_law_pool (K : PySem.W.Frag) (CLine : Addr) : TFp := tSeqFP (tSetP 1 (tConP (.int 0))) (tSeqFP (tIfSP (tOrP (tBlP (tOpP rLt (tVarP 0) (tConP (.int 0)))) (tBlP (tOpP rGe (tVarP 0) (tOpP rPow (tConP (.int 10)) (tConP (.int 18)))))) (tSetP 1 (tCBP rAbs (tConsP (tVarP 0) (tNilP)))) (tNextP)) (tLstFP (tConsP (tOpP rMod (tVarP 0) (tConP (.int 1000000007))) (tConsP (tVarP 1) (tConsP (tConP (.int 0)) (tNilP))))))
def ts_law_draw (K : PySem.W.Frag) (CLine : Addr) : TSp := tSeqP (tAsgP (tOpP rAdd (tIxOP 0 (tConP (.int 2))) (tConP (.int 1))) (gSubP 0 (tConP (.int 2)))) (tSeqP (tSetP 2 (tIxOP 0 (tConP (.int 0)))) (tSeqP (tAsgP (tOpP rMod (tOpP rAdd (tOpP rAdd (tOpP rMulA (tVarP 2) (tOpP rAdd (tOpP rMod (tVarP 2) (tConP (.int 46007))) (tConP (.int 20011)))) (tOpP rMulA (tConP (.int 60013)) (tIxOP 0 (tConP (.int 2))))) (tConP (.int 5))) (tConP (.int 1000000007))) (gSubP 0 (tConP (.int 0)))) (tSeqP (tIfSP (tBlP (tOpP rGt (tIxOP 0 (tConP (.int 1))) (tConP (.int 0)))) (tSeqP (tAsgP (tCBP rDivmodW (tConsP (tIxOP 0 (tConP (.int 1))) (tConsP (tVarP 1) (tNilP)))) (gTupP 2 (gConsP (gSubP 0 (tConP (.int 1))) (gConsP (gNameP 3) (gNilP))))) (tRetP (tVarP 3))) (tNextP)) (tRetP (tOpP rMod (tOpP rDiv (tIxOP 0 (tConP (.int 0))) (tConP (.int 32))) (tVarP 1))))))
def ts_law_words (K : PySem.W.Frag) (CLine : Addr) : TSp := tSeqP (tSetP 2 (tConP (.str ("abcdefghijklmnopqrstuvwxyz" : Str)))) (tSeqP (tSetP 3 (tLstP (tConsP (tConP (.str ("book" : Str))) (tConsP (tConP (.str ("cancel" : Str))) (tConsP (tConP (.str ("exchange" : Str))) (tConsP (tConP (.str ("shift" : Str))) (tConsP (tConP (.str ("seats" : Str))) (tConsP (tConP (.str ("undo" : Str))) (tConsP (tConP (.str ("show" : Str))) (tConsP (tConP (.str ("line" : Str))) (tConsP (tConP (.str ("count" : Str))) (tConsP (tConP (.str ("number" : Str))) (tConsP (tConP (.str ("load" : Str))) (tConsP (tConP (.str ("trip" : Str))) (tNilP))))))))))))))) (tSeqP (tSetP 3 (tOpP rAdd (tVarP 3) (tLstP (tConsP (tConP (.str ("none" : Str))) (tConsP (tConP (.str ("cut" : Str))) (tConsP (tConP (.str ("overfull" : Str))) (tConsP (tConP (.str ("a" : Str))) (tConsP (tConP (.str ("b" : Str))) (tConsP (tConP (.str ("x" : Str))) (tConsP (tConP (.str ("plan" : Str))) (tConsP (tConP (.str ("route" : Str))) (tConsP (tConP (.str ("fixed" : Str))) (tConsP (tConP (.str ("full" : Str))) (tConsP (tConP (.str ("goal" : Str))) (tConsP (tConP (.str ("name" : Str))) (tNilP)))))))))))))))) (tSeqP (tAsgP (tTupP (tConsP (tCallRP 0 (sp_law_draw K CLine) (tConsP (tConP (.int 3)) (tNilP))) (tConsP (tCallRP 0 (sp_law_draw K CLine) (tConsP (tConP (.int 24)) (tNilP))) (tNilP)))) (gTupP 2 (gConsP (gNameP 4) (gConsP (gNameP 5) (gNilP))))) (tSeqP (tIfSP (tBlP (tOpP (rEqP false) (tVarP 4) (tConP (.int 0)))) (tRetP (tValP (tLcP (iRng1P (tVarP 1)) (gNameP 8) (tYesP) (tOpP rIxP (tVarP 3) (tOpP rMod (tOpP rAdd (tVarP 5) (tOpP rMulA (tConP (.int 5)) (tVarP 8))) (tConP (.int 24)))) [8]))) (tNextP)) (tSeqP (tIfSP (tBlP (tOpP (rEqP false) (tVarP 4) (tConP (.int 1)))) (tRetP (tValP (tLcP (iRng1P (tVarP 1)) (gNameP 8) (tYesP) (tOpP rMulA (tOpP rIxP (tVarP 2) (tOpP rMod (tOpP rAdd (tVarP 5) (tOpP rMulA (tConP (.int 7)) (tVarP 8))) (tConP (.int 26)))) (tOpP rAdd (tConP (.int 1)) (tOpP rMod (tVarP 8) (tConP (.int 8))))) [8]))) (tNextP)) (tSeqP (tSetP 6 (tJoinP (tConP (.str ("" : Str))) (tValP (tLcP (iRng1P (tCallRP 0 (sp_law_draw K CLine) (tConsP (tConP (.int 8)) (tNilP)))) (gNameP 8) (tYesP) (tOpP rIxP (tVarP 2) (tCallRP 0 (sp_law_draw K CLine) (tConsP (tConP (.int 26)) (tNilP)))) [8])))) (tSeqP (tSetP 7 (tCallRP 0 (sp_law_draw K CLine) (tConsP (tOpP rAdd (tCBP rLen (tConsP (tVarP 6) (tNilP))) (tConP (.int 1))) (tNilP)))) (tRetP (tValP (tLcP (iRng1P (tVarP 1)) (gNameP 8) (tYesP) (tOpP rAdd (tOpP rAdd (tSliceP (tVarP 6) (tNoPartP) (tPartP (tVarP 7))) (tOpP rIxP (tVarP 2) (tOpP rMod (tOpP rAdd (tVarP 5) (tOpP rMulA (tConP (.int 5)) (tVarP 8))) (tConP (.int 26))))) (tSliceP (tVarP 6) (tPartP (tVarP 7)) (tNoPartP))) [8]))))))))))
def ts_law_far (K : PySem.W.Frag) (CLine : Addr) : TSp := tSeqP (tParP [2, 3, 4] (tConsF (tLstFP (tNilP)) (tConsV (tCallRP 0 (sp_law_draw K CLine) (tConsP (tConP (.int 3)) (tNilP))) (tConsV (tCallRP 0 (sp_law_draw K CLine) (tConsP (tConP (.int 3)) (tNilP))) (tNilAr))))) (tSeqP (tForP (iRng1P (tOpP rAdd (tVarP 1) (tConP (.int 1)))) (gNameP 5) (tSeqP (tAppP 2 (tIfP (tBlP (tOpP rGt (tVarP 4) (tConP (.int 0)))) (tVarP 5) (tVarP 3))) (tSetP 3 (tOpP rAdd (tOpP rAdd (tVarP 3) (tConP (.int 1))) (tOpP rIxP (tLstP (tConsP (tConP (.int 0)) (tConsP (tCallRP 0 (sp_law_draw K CLine) (tConsP (tConP (.int 9)) (tNilP))) (tConsP (tOpP rPow (tConP (.int 10)) (tConP (.int 29))) (tNilP))))) (tCallRP 0 (sp_law_draw K CLine) (tConsP (tConP (.int 3)) (tNilP)))))))) (tRetP (tVarP 2)))
def ts_law_rides (K : PySem.W.Frag) (CLine : Addr) : TSp := tSeqP (tParP [3, 4, 5] (tConsV (tCallRP 0 (sp_law_far K CLine) (tConsP (tVarP 2) (tNilP))) (tConsF (tLstFP (tNilP)) (tConsV (tConP (.int 0)) (tNilAr))))) (tSeqP (tForP (iListP (tVarP 1)) (gNameP 6) (tSeqP (tSetP 7 (tCallRP 0 (sp_law_draw K CLine) (tConsP (tConP (.int 4)) (tNilP)))) (tSeqP (tSetP 8 (tIfP (tAndP (tBlP (tOpP (rEqP false) (tVarP 7) (tConP (.int 0)))) (tBlP (tOpP rLt (tVarP 5) (tVarP 2)))) (tVarP 5) (tCallRP 0 (sp_law_draw K CLine) (tConsP (tVarP 2) (tNilP))))) (tSeqP (tSetP 5 (tOpP rAdd (tOpP rAdd (tVarP 8) (tConP (.int 1))) (tCallRP 0 (sp_law_draw K CLine) (tConsP (tIfP (tBlP (tOpP rGt (tOpP rSub (tVarP 2) (tVarP 8)) (tConP (.int 1)))) (tOpP rIxP (tLstP (tConsP (tConP (.int 1)) (tConsP (tConP (.int 2)) (tConsP (tOpP rSub (tVarP 2) (tVarP 8)) (tConsP (tOpP rSub (tVarP 2) (tVarP 8)) (tNilP)))))) (tVarP 7)) (tConP (.int 1))) (tNilP))))) (tSeqP (tSetP 5 (tCBP rMin2 (tConsP (tVarP 5) (tConsP (tVarP 2) (tNilP))))) (tAppP 4 (tTupP (tConsP (tVarP 6) (tConsP (tOpP rIxP (tVarP 3) (tVarP 8)) (tConsP (tOpP rIxP (tVarP 3) (tVarP 5)) (tNilP))))))))))) (tRetP (tCBP rTuple (tConsP (tCBP rSortD (tConsP (tVarP 4) (tNilP))) (tNilP)))))
section
variable {K : PySem.W.Frag} {C : Addr} {args : List PV} {P : PV → Prop} {PR : PV → Ow → Prop} {PF : List PV → Prop} {o : Ow}
theorem len_is_integer (h : sp_is_integer K C args P) : args.length = 1 := by
 unfold sp_is_integer at h
 first | (obtain ⟨_, rfl, _⟩ := h; rfl) | (obtain ⟨_, _, rfl, _⟩ := h; rfl)
theorem len_is_station (h : sp_is_station K C args P) : args.length = 1 := by
 unfold sp_is_station at h
 first | (obtain ⟨_, rfl, _⟩ := h; rfl) | (obtain ⟨_, _, rfl, _⟩ := h; rfl)
theorem len_is_later (h : sp_is_later K C args P) : args.length = 2 := by
 unfold sp_is_later at h
 first | (obtain ⟨_, rfl, _⟩ := h; rfl) | (obtain ⟨_, _, rfl, _⟩ := h; rfl)
theorem len_is_trip_name (h : sp_is_trip_name K C args P) : args.length = 1 := by
 unfold sp_is_trip_name at h
 first | (obtain ⟨_, rfl, _⟩ := h; rfl) | (obtain ⟨_, _, rfl, _⟩ := h; rfl)
theorem len_Line_trips (h : sp_Line_trips K C args P) : args.length = 1 := by
 unfold sp_Line_trips at h
 first | (obtain ⟨_, rfl, _⟩ := h; rfl) | (obtain ⟨_, _, rfl, _⟩ := h; rfl)
theorem len_law_cell (h : sp_law_cell K C args P) : args.length = 2 := by
 unfold sp_law_cell at h
 first | (obtain ⟨_, rfl, _⟩ := h; rfl) | (obtain ⟨_, _, rfl, _⟩ := h; rfl)
theorem len_law_pool (h : sp_law_pool K C args PF) : args.length = 1 := by
 unfold sp_law_pool at h
 first | (obtain ⟨_, rfl, _⟩ := h; rfl) | (obtain ⟨_, _, rfl, _⟩ := h; rfl)
theorem len_law_draw (h : sp_law_draw K C o args PR) : args.length = 1 := by
 unfold sp_law_draw at h
 first | (obtain ⟨_, _, rfl, _⟩ := h; rfl) | (obtain ⟨_, _, _, rfl, _⟩ := h; rfl)
theorem len_law_words (h : sp_law_words K C o args PR) : args.length = 1 := by
 unfold sp_law_words at h
 first | (obtain ⟨_, _, rfl, _⟩ := h; rfl) | (obtain ⟨_, _, _, rfl, _⟩ := h; rfl)
theorem len_law_far (h : sp_law_far K C o args PR) : args.length = 1 := by
 unfold sp_law_far at h
 first | (obtain ⟨_, _, rfl, _⟩ := h; rfl) | (obtain ⟨_, _, _, rfl, _⟩ := h; rfl)
theorem len_law_rides (h : sp_law_rides K C o args PR) : args.length = 2 := by
 unfold sp_law_rides at h
 first | (obtain ⟨_, _, rfl, _⟩ := h; rfl) | (obtain ⟨_, _, _, rfl, _⟩ := h; rfl)
theorem rIsI_ty {x : PV} {n : String} {Q : PV → Prop} : rIsI K [x, .raw (.ty n)] Q = (match tyN x with
  | some t => ∃ b, kitB t n = some b ∧ Q (.bl b)
  | none => match x with
   | .ins C _ => ClsT K C ∧ n ∈ ["int", "bool", "str", "tuple", "list", "dict"] ∧ Q (.bl false)
   | _ => False) := rfl
theorem isi_ty {x : PV} {n : String} {Q : PV → Prop} (h : Kn K x) (hn : n ∈ ["int", "bool", "str", "tuple", "list", "dict"]) (q : ∀ b, (∀ t, tyN x = some t → kitB t n = some b) → (tyN x = none → b = false) → Q (.bl b)) : rIsI K [x, .raw (.ty n)] Q := by
 rw [rIsI_ty]
 split
 ·rename_i t e
  have : ∃ b, kitB t n = some b := by
   have ht : t ∈ ["NoneType", "int", "bool", "str", "tuple", "list", "dict"] := by cases x <;> simp [tyN] at e <;> subst e <;> decide
   simp only [List.mem_cons, List.not_mem_nil, or_false] at hn ht
   rcases hn with rfl | rfl | rfl | rfl | rfl | rfl <;> rcases ht with rfl | rfl | rfl | rfl | rfl | rfl | rfl <;> first | exact ⟨true, by decide +kernel⟩ | exact ⟨false, by decide +kernel⟩
  obtain ⟨b, hb⟩ := this
  exact ⟨b, hb, q b (fun t' z => by cases e.symm.trans z; exact hb) fun z => by rw [z] at e; cases e⟩
 ·rename_i e
  rcases h with h | ⟨D, fs, rfl, cl⟩
  ·rw [e] at h; cases h
  ·exact ⟨cl, hn, q false (fun t z => nomatch z) fun _ => rfl⟩
theorem isi_is {x : PV} {n : String} {f : PV → Bool} {Q : PV → Prop} (h : Kn K x) (hn : n ∈ ["int", "bool", "str", "tuple", "list", "dict"]) (hf : ∀ x t, tyN x = some t → kitB t n = some (f x)) (h0 : ∀ x, tyN x = none → f x = false) (q : Q (.bl (f x))) : rIsI K [x, .raw (.ty n)] Q := by
 refine isi_ty h hn fun b h1 h2 => ?_
 cases e : tyN x with
 | some t =>
  have := (h1 t e).symm.trans (hf x t e)
  cases this
  exact q
 | none => rw [h2 e, ← h0 x e]; exact q
def isIb : PV → Bool
 | .int _ => true
 | .bl _ => true
 | _ => false
def isBl : PV → Bool
 | .bl _ => true
 | _ => false
def isSt : PV → Bool
 | .str _ => true
 | _ => false
def isTu : PV → Bool
 | .tup _ => true
 | _ => false
theorem isi_int {x : PV} {Q : PV → Prop} (h : Kn K x) (q : Q (.bl (isIb x))) : rIsI K [x, .raw (.ty "int")] Q :=
 isi_is h (by decide) (fun x t e => by cases x <;> simp [tyN] at e <;> subst e <;> first | (show kitB _ _ = some true; decide +kernel) | (show kitB _ _ = some false; decide +kernel)) (fun x e => by cases x <;> simp [tyN] at e <;> rfl) q
theorem isi_bool {x : PV} {Q : PV → Prop} (h : Kn K x) (q : Q (.bl (isBl x))) : rIsI K [x, .raw (.ty "bool")] Q :=
 isi_is h (by decide) (fun x t e => by cases x <;> simp [tyN] at e <;> subst e <;> first | (show kitB _ _ = some true; decide +kernel) | (show kitB _ _ = some false; decide +kernel)) (fun x e => by cases x <;> simp [tyN] at e <;> rfl) q
theorem isi_str {x : PV} {Q : PV → Prop} (h : Kn K x) (q : Q (.bl (isSt x))) : rIsI K [x, .raw (.ty "str")] Q :=
 isi_is h (by decide) (fun x t e => by cases x <;> simp [tyN] at e <;> subst e <;> first | (show kitB _ _ = some true; decide +kernel) | (show kitB _ _ = some false; decide +kernel)) (fun x e => by cases x <;> simp [tyN] at e <;> rfl) q
theorem isi_tuple {x : PV} {Q : PV → Prop} (h : Kn K x) (q : Q (.bl (isTu x))) : rIsI K [x, .raw (.ty "tuple")] Q :=
 isi_is h (by decide) (fun x t e => by cases x <;> simp [tyN] at e <;> subst e <;> first | (show kitB _ _ = some true; decide +kernel) | (show kitB _ _ = some false; decide +kernel)) (fun x e => by cases x <;> simp [tyN] at e <;> rfl) q
theorem rd_is_integer (h : sp_is_integer K C args P) : ts_is_integer K C { nx := fun _ => P .non, rt := fun x _ => P x } (startP 1 args) := by
 obtain ⟨x, rfl, hk, hp⟩ := h
 have e : startP 1 [x] = [.va x] := rfl
 simp only [ts_is_integer, e, tLcP, tForP, iStrP, iListP, iTupP, iRng1P, iRng2P, iEnumP, wipeP, tAppP, tJoinP, tSeqP, tRetP, tRetNP, tIfSP, tNextP, tNevP, tSetP, tSetFP, tDropP, tAsgP, gNameP, gNilP, gConsP, gTupP, tAndVP, tNotVP, tOrVP, tCBP, tConsP, tNilP, tVarP, tConP, tBlP, tOrP, tAndP, tNotP, tOpP, tChainP, tCallP, tCallFP, tTupP, tLstP, tLstFP, tValP, tIfP, tNegP, tSliceP, tNoPartP, tPartP, tSeqFP, tYesP, frz, List.getElem?_cons_zero, List.getElem?_cons_succ, List.set_cons_zero, List.set_cons_succ, List.append_nil, List.length_cons, List.length_nil, Nat.zero_add]
 refine isi_int hk ?_
 cases x <;> first | exact isi_bool hk hp | exact hp
theorem rd_is_station (h : sp_is_station K C args P) : ts_is_station K C { nx := fun _ => P .non, rt := fun x _ => P x } (startP 1 args) := by
 obtain ⟨x, rfl, hk, hp⟩ := h
 have e : startP 1 [x] = [.va x] := rfl
 simp only [ts_is_station, e, tLcP, tForP, iStrP, iListP, iTupP, iRng1P, iRng2P, iEnumP, wipeP, tAppP, tJoinP, tSeqP, tRetP, tRetNP, tIfSP, tNextP, tNevP, tSetP, tSetFP, tDropP, tAsgP, gNameP, gNilP, gConsP, gTupP, tAndVP, tNotVP, tOrVP, tCBP, tConsP, tNilP, tVarP, tConP, tBlP, tOrP, tAndP, tNotP, tOpP, tChainP, tCallP, tCallFP, tTupP, tLstP, tLstFP, tValP, tIfP, tNegP, tSliceP, tNoPartP, tPartP, tSeqFP, tYesP, frz, List.getElem?_cons_zero, List.getElem?_cons_succ, List.set_cons_zero, List.set_cons_succ, List.append_nil, List.length_cons, List.length_nil, Nat.zero_add]
 refine ⟨x, rfl, hk, ?_⟩
 cases x <;> exact hp
theorem rd_is_later (h : sp_is_later K C args P) : ts_is_later K C { nx := fun _ => P .non, rt := fun x _ => P x } (startP 2 args) := by
 obtain ⟨x, s, rfl, hk, hp⟩ := h
 have e : startP 2 [x, .int s] = [.va x, .va (.int s)] := rfl
 simp only [ts_is_later, e, tLcP, tForP, iStrP, iListP, iTupP, iRng1P, iRng2P, iEnumP, wipeP, tAppP, tJoinP, tSeqP, tRetP, tRetNP, tIfSP, tNextP, tNevP, tSetP, tSetFP, tDropP, tAsgP, gNameP, gNilP, gConsP, gTupP, tAndVP, tNotVP, tOrVP, tCBP, tConsP, tNilP, tVarP, tConP, tBlP, tOrP, tAndP, tNotP, tOpP, tChainP, tCallP, tCallFP, tTupP, tLstP, tLstFP, tValP, tIfP, tNegP, tSliceP, tNoPartP, tPartP, tSeqFP, tYesP, frz, List.getElem?_cons_zero, List.getElem?_cons_succ, List.set_cons_zero, List.set_cons_succ, List.append_nil, List.length_cons, List.length_nil, Nat.zero_add]
 refine ⟨x, rfl, hk, ?_⟩
 cases x <;> exact hp
theorem blsOf_map {α : Type} (f : α → Bool) : ∀ xs : List α, blsOf (xs.map fun c => PV.bl (f c)) = some (xs.map f)
 | [] => rfl
 | x :: xs => by rw [List.map_cons, blsOf, blsOf_map f xs]; rfl
theorem rd_is_trip_name (h : sp_is_trip_name K C args P) : ts_is_trip_name K C { nx := fun _ => P .non, rt := fun x _ => P x } (startP 2 args) := by
 obtain ⟨x, rfl, hk, hz, hp⟩ := h
 have e : startP 2 [x] = [.va x, .no] := rfl
 simp only [ts_is_trip_name, e, tLcP, tForP, iStrP, iListP, iTupP, iRng1P, iRng2P, iEnumP, wipeP, tAppP, tJoinP, tSeqP, tRetP, tRetNP, tIfSP, tNextP, tNevP, tSetP, tSetFP, tDropP, tAsgP, gNameP, gNilP, gConsP, gTupP, tAndVP, tNotVP, tOrVP, tCBP, tConsP, tNilP, tVarP, tConP, tBlP, tOrP, tAndP, tNotP, tOpP, tChainP, tCallP, tCallFP, tTupP, tLstP, tLstFP, tValP, tIfP, tNegP, tSliceP, tNoPartP, tPartP, tSeqFP, tYesP, frz, List.getElem?_cons_zero, List.getElem?_cons_succ, List.set_cons_zero, List.set_cons_succ, List.append_nil, List.length_cons, List.length_nil, Nat.zero_add]
 refine isi_str hk ?_
 cases x <;> try exact hp
 rename_i z
 have hz := hz z rfl
 simp only [isSt, rLe, rLen, rAllP, Bool.not_true, Bool.false_eq_true, if_false, tLcP, tForP, iStrP, iListP, iTupP, iRng1P, iRng2P, iEnumP, wipeP, tAppP, tJoinP, tSeqP, tRetP, tRetNP, tIfSP, tNextP, tNevP, tSetP, tSetFP, tDropP, tAsgP, gNameP, gNilP, gConsP, gTupP, tAndVP, tNotVP, tOrVP, tCBP, tConsP, tNilP, tVarP, tConP, tBlP, tOrP, tAndP, tNotP, tOpP, tChainP, tCallP, tCallFP, tTupP, tLstP, tLstFP, tValP, tIfP, tNegP, tSliceP, tNoPartP, tPartP, tSeqFP, tYesP, frz, List.getElem?_cons_zero, List.getElem?_cons_succ, List.set_cons_zero, List.set_cons_succ, List.append_nil, List.length_cons, List.length_nil, Nat.zero_add]
 refine ⟨hz, _, rfl, ?_⟩
 by_cases h1 : (1 : Int) ≤ z.length
 ·rw [decide_eq_true h1]
  by_cases h2 : (z.length : Int) ≤ 8
  ·simp only [decide_eq_true h2, if_true, Bool.not_true, Bool.false_eq_true, if_false, tLcP, tForP, iStrP, iListP, iTupP, iRng1P, iRng2P, iEnumP, wipeP, tAppP, tJoinP, tSeqP, tRetP, tRetNP, tIfSP, tNextP, tNevP, tSetP, tSetFP, tDropP, tAsgP, gNameP, gNilP, gConsP, gTupP, tAndVP, tNotVP, tOrVP, tCBP, tConsP, tNilP, tVarP, tConP, tBlP, tOrP, tAndP, tNotP, tOpP, tChainP, tCallP, tCallFP, tTupP, tLstP, tLstFP, tValP, tIfP, tNegP, tSliceP, tNoPartP, tPartP, tSeqFP, tYesP, frz, List.getElem?_cons_zero, List.getElem?_cons_succ, List.set_cons_zero, List.set_cons_succ, List.append_nil, List.length_cons, List.length_nil, Nat.zero_add]
   refine ⟨fun i acc η => acc = (z.cps.toList.take i).map (fun c => .bl (decide (c ∈ abc.cps.toList))) ∧ η = [.va (.str z), .no], ⟨rfl, rfl⟩, ?_, ?_⟩
   ·rintro i y acc η hi ⟨rfl, rfl⟩
    rw [List.getElem?_map] at hi
    cases q : z.cps.toList[i]? with
    | none => rw [q] at hi; cases hi
    | some c =>
     rw [q] at hi; cases hi
     have hil : i < z.cps.toList.length := (List.getElem?_eq_some_iff.mp q).1
     simp only [rInS, if_true, tLcP, tForP, iStrP, iListP, iTupP, iRng1P, iRng2P, iEnumP, wipeP, tAppP, tJoinP, tSeqP, tRetP, tRetNP, tIfSP, tNextP, tNevP, tSetP, tSetFP, tDropP, tAsgP, gNameP, gNilP, gConsP, gTupP, tAndVP, tNotVP, tOrVP, tCBP, tConsP, tNilP, tVarP, tConP, tBlP, tOrP, tAndP, tNotP, tOpP, tChainP, tCallP, tCallFP, tTupP, tLstP, tLstFP, tValP, tIfP, tNegP, tSliceP, tNoPartP, tPartP, tSeqFP, tYesP, frz, List.getElem?_cons_zero, List.getElem?_cons_succ, List.set_cons_zero, List.set_cons_succ, List.append_nil, List.length_cons, List.length_nil, Nat.zero_add]
     refine ⟨c, rfl, ?_, ?_, trivial⟩
     ·rw [List.length_map, List.length_take]
      have : sizeLine > 100 := by decide
      have : z.length = z.cps.toList.length := by simp [Str.length]
      omega
     ·simp only [Bool.false_eq_true, if_false]
      rw [List.take_succ, q]
      simp [abc]
   ·rintro acc η ⟨rfl, rfl⟩
    rw [List.length_map, List.take_length]
    refine ⟨_, blsOf_map _ _, ?_⟩
    have : (isNm (.str z)) = ((z.cps.toList.map fun c => decide (c ∈ abc.cps.toList)).all id) := by
     have h1' : 1 ≤ z.length := by omega
     have h2' : z.length ≤ 8 := by omega
     simp [isNm, h1', h2']
    rw [← this]
    exact hp
  ·simp only [decide_eq_false h2, if_true, Bool.not_false]
   have : isNm (.str z) = false := by
    have h2' : ¬ z.length ≤ 8 := by omega
    simp [isNm, h2']
   rw [this] at hp
   exact hp
 ·simp only [decide_eq_false h1, Bool.false_eq_true, if_false, if_true, Bool.not_false]
  have : isNm (.str z) = false := by
   have h2' : ¬ 1 ≤ z.length := by omega
   simp only [isNm, decide_eq_false h2', Bool.false_and]
  rw [this] at hp
  exact hp
theorem Kn.i {i : Int} : Kn K (.int i) := .inl rfl
theorem Kn.s {i : Str} : Kn K (.str i) := .inl rfl
theorem Kn.t {xs : List PV} : Kn K (.tup xs) := .inl rfl
theorem rd_Line_trips (h : sp_Line_trips K C args P) : ts_Line_trips K C { nx := fun _ => P .non, rt := fun x _ => P x } (startP 1 args) := by
 obtain ⟨n, rs, rfl, hp⟩ := h
 exact ⟨rfl, _, rfl, hp⟩
end
section
variable {K : PySem.W.Frag} {P : PV → Prop} {i j : Int} {x y : PV} {xs ys : List PV} {a b : Str} {η : EP'} {Q : PV → EP' → Prop} {R : EP' → Prop} {n : Nat}
theorem q_add (h : P (.int (i + j))) : rAdd (.int i) (.int j) P := h
theorem q_addS (l : a.length + b.length ≤ sizeLine) (h : P (.str (a ++ b))) : rAdd (.str a) (.str b) P := ⟨l, h⟩
theorem q_addL (l : xs.length + ys.length ≤ sizeLine) (h : P (.lst (xs ++ ys))) : rAdd (.lst xs) (.lst ys) P := ⟨l, h⟩
theorem q_sub (h : P (.int (i - j))) : rSub (.int i) (.int j) P := h
theorem q_mul (c : CMul i j) (h : P (.int (i * j))) : rMulA (.int i) (.int j) P := .inl ⟨c, h⟩
theorem q_mulS (h1 : 1 ≤ j) (h2 : j ≤ 1000) (l : a.length ≤ 1000) (h : P (.str (strRep a j.toNat))) : rMulA (.str a) (.int j) P := .inr ⟨h1, h2, l, h⟩
theorem q_div (c : CDiv i j) (h : P (.int (i / j))) : rDiv (.int i) (.int j) P := ⟨c, h⟩
theorem q_mod (c : 0 < j) (h : P (.int (i % j))) : rMod (.int i) (.int j) P := ⟨c, h⟩
theorem q_pow (c : CPow i j) (h : P (.int (i ^ j.toNat))) : rPow (.int i) (.int j) P := ⟨c, h⟩
theorem q_lt (h : P (.bl (decide (i < j)))) : rLt (.int i) (.int j) P := h
theorem q_gt (h : P (.bl (decide (j < i)))) : rGt (.int i) (.int j) P := h
theorem q_ge (h : P (.bl (decide (j ≤ i)))) : rGe (.int i) (.int j) P := h
theorem q_le (h : P (.bl (decide (i ≤ j)))) : rLe (.int i) (.int j) P := h
theorem q_leS (h : P (.bl (!decide (b.cps.toList < a.cps.toList)))) : rLe (.str a) (.str b) P := h
theorem beq_int : (i == j) = decide (i = j) := by by_cases h : i = j <;> simp [h]
theorem q_eq (h : P (.bl (decide (i = j)))) : rEqP false (.int i) (.int j) P := ⟨.int i, .int j, rfl, rfl, rfl, rfl, by
 have e : PyData.eqv (.int i) (.int j) = decide (i = j) := by rw [show PyData.eqv (.int i) (.int j) = (i == j) by simp [PyData.eqv]]; exact beq_int
 simpa [e] using h⟩
theorem q_inS {c : Nat} (h : P (.bl (decide (c ∈ b.cps.toList)))) : rInS false (.str ⟨#[c]⟩) (.str b) P := ⟨c, rfl, by simpa using h⟩
theorem q_lenS (l : a.length ≤ sizeLine) (h : P (.int a.length)) : rLen [.str a] P := ⟨l, h⟩
theorem q_len (h : P (.int xs.length)) : rLen [.lst xs] P := h
theorem q_lenT (h : P (.int xs.length)) : rLen [.tup xs] P := h
theorem q_lenC {ns : List Int} (h : P (.int ns.length)) : rLen [.scr ns] P := h
theorem q_ix (e : atI xs i = some x) (h : P x) : rIxP (.lst xs) (.int i) P := ⟨x, e, h⟩
theorem q_ixT (e : atI xs i = some x) (h : P x) : rIxP (.tup xs) (.int i) P := ⟨x, e, h⟩
theorem q_ixC {ns : List Int} (e : atI ns i = some j) (h : P (.int j)) : rIxP (.scr ns) (.int i) P := ⟨j, e, h⟩
theorem q_ixS {c : Nat} (l : a.length ≤ sizeLine) (e : atI a.cps.toList i = some c) (h : P (.str ⟨#[c]⟩)) : rIxP (.str a) (.int i) P := ⟨l, c, e, h⟩
theorem q_max (h : P (.int (if j > i then j else i))) : rMax2 [.int i, .int j] P := h
theorem q_min (h : P (.int (if j < i then j else i))) : rMin2 [.int i, .int j] P := h
theorem q_abs (h : P (.int (if i < 0 then -i else i))) : rAbs [.int i] P := h
theorem q_all {bs : List Bool} (e : blsOf xs = some bs) (h : P (.bl (bs.all id))) : rAllP [.lst xs] P := ⟨bs, e, h⟩
theorem q_ite {p : Prop} [Decidable p] {A B : Prop} (h1 : p → A) (h2 : ¬ p → B) : if decide p = true then A else B := by
 by_cases h : p
 ·rw [if_pos (decide_eq_true h)]; exact h1 h
 ·rw [if_neg (by simp [h])]; exact h2 h
theorem q_iteT {A B : Prop} (h : A) : if true = true then A else B := h
theorem q_iteF {A B : Prop} (h : B) : if false = true then A else B := h
theorem q_it {A B : Prop} [Decidable True] (h : A) : if True then A else B := by rw [if_pos trivial]; exact h
theorem q_ixO {s : Nat} (e : η[s]? = some (.ow (.l xs))) (e1 : atI xs i = some x) (h : Q x η) : tIxOP s (fun η P => P (.int i) η) η Q := by
 refine ⟨⟨_, e⟩, ?_⟩
 show (match η[s]? with
 | some (.ow (.l xs)) => ∃ kk v, PV.int i = .int kk ∧ atI xs kk = some v ∧ Q v η
 | _ => False)
 rw [e]
 exact ⟨i, x, rfl, e1, h⟩
theorem q_setO {s : Nat} (e : η[s]? = some (.ow (.l xs))) (e1 : ixN xs.length i = some n) (h : R (η.set s (.ow (.l (xs.set n x))))) : gSubP s (fun η P => P (.int i) η) x η R := by
 refine ⟨⟨_, e⟩, ?_⟩
 show (match η[s]? with
 | some (.ow (.l xs)) => ∃ kk j, PV.int i = .int kk ∧ ixN xs.length kk = some j ∧ R (η.set s (.ow (.l (xs.set j x))))
 | _ => False)
 rw [e]
 exact ⟨i, n, rfl, e1, h⟩
theorem q_draw {s : Nat} {o : Ow} {C : Addr} {m : Int} {ta : TAp} (e : η[s]? = some (.ow o)) (ha : ta = fun η P => P [.int m] η) (hp : Pool o) (h0 : 0 < m) (h1 : m < 10 ^ 40) (h : ∀ o' (k : Int), Pool o' → 0 ≤ k → k < m → Q (.int k) (η.set s (.ow o'))) : tCallRP s (sp_law_draw K C) ta η Q := by
 subst ha
 refine ⟨⟨_, e⟩, ?_⟩
 show (match η[s]? with
 | some (.ow o) => sp_law_draw K C o [.int m] fun z o' => Q z (η.set s (.ow o'))
 | _ => False)
 rw [e]
 exact ⟨m, hp, rfl, h0, h1, fun o' k p a b => h o' k p a b⟩
variable {D : EndsP} {t u : TSp} {te ta tb : TEp} {tx : TAp} {tf : TFp} {s : Nat} {o : Ow} {r : R2p} {r1 : R1p} {tc td : TTp} {QA : List PV → EP' → Prop} {QB : Bool → EP' → Prop} {g : TGp} {ti : TIp}
theorem w_seq (h : t { D with nx := fun η' => u D η' } η) : tSeqP t u D η := h
theorem w_set (h : te η fun x η1 => D.nx (η1.set s (.va x))) : tSetP s te D η := h
theorem w_if (h : tc η fun b η1 => if b = true then t D η1 else u D η1) : tIfSP tc t u D η := h
theorem w_ret (h : te η D.rt) : tRetP te D η := h
theorem w_next (h : D.nx η) : tNextP D η := h
theorem w_asg (h : te η fun x η1 => g x η1 D.nx) : tAsgP te g D η := h
theorem w_con (h : Q x η) : tConP x η Q := h
theorem w_var (e : η[s]? = some (.va x)) (h : Q x η) : tVarP s η Q := by unfold tVarP; rw [e]; exact h
theorem w_varO (e : η[s]? = some (.ow o)) (h : Q (frz o) (η.set s (.va (frz o)))) : tVarP s η Q := by unfold tVarP; rw [e]; exact h
theorem w_op (h : ta η fun x η1 => tb η1 fun y η2 => r x y fun z => Q z η2) : tOpP r ta tb η Q := h
theorem w_cb (h : tx η fun xs η1 => r1 xs fun z => Q z η1) : tCBP r1 tx η Q := h
theorem w_nil (h : QA [] η) : tNilP η QA := h
theorem w_cons (h : te η fun x η1 => tx η1 fun xs η2 => QA (x :: xs) η2) : tConsP te tx η QA := h
theorem w_tup (h : tx η fun xs η1 => xs.length ≤ sizeLine ∧ Q (.tup xs) η1) : tTupP tx η Q := h
theorem w_lst (h : tx η fun xs η1 => xs.length ≤ sizeLine ∧ Q (.lst xs) η1) : tLstP tx η Q := h
theorem w_lstF (h : tx η fun xs η1 => xs.length ≤ sizeLine ∧ QA xs η1) : tLstFP tx η QA := h
theorem w_val (h : tf η fun xs η1 => Q (.lst xs) η1) : tValP tf η Q := h
theorem w_bl (h : te η fun x η1 => match x with | .bl b => QB b η1 | _ => False) : tBlP te η QB := h
theorem w_or (h : tc η fun c η1 => if c = true then QB true η1 else td η1 QB) : tOrP tc td η QB := h
theorem w_and (h : tc η fun c η1 => if c = true then td η1 QB else QB false η1) : tAndP tc td η QB := h
theorem w_not (h : tc η fun c η1 => QB (!c) η1) : tNotP tc η QB := h
theorem w_ife (h : tc η fun c η1 => if c = true then ta η1 Q else tb η1 Q) : tIfP tc ta tb η Q := h
theorem w_call {sp : SpP} {dps : List PV} (h : tx η fun args η1 => sp (args ++ dps) fun z => Q z η1) : tCallP sp dps tx η Q := h
theorem w_lc {tt : TTp} {vs : List Nat} (h : ti η fun xs η1 => ∃ Inv : Nat → List PV → EP' → Prop, Inv 0 [] (wipeP η1 vs) ∧
 (∀ i x acc η2, xs[i]? = some x → Inv i acc η2 → g x (wipeP η2 vs) fun η3 => tt η3 fun b η4 => if b = true then te η4 fun y η5 => acc.length < sizeLine ∧ Inv (i + 1) (acc ++ [y]) (wipeP η5 vs) else Inv (i + 1) acc (wipeP η4 vs)) ∧
 (∀ acc η2, Inv xs.length acc η2 → QA acc η2)) : tLcP ti g tt te vs η QA := h
theorem w_for (h : ti η fun xs η1 => ∃ Inv : Nat → EP' → Prop, Inv 0 η1 ∧
 (∀ i x η2, xs[i]? = some x → Inv i η2 → g x η2 fun η3 => t { D with nx := Inv (i + 1), ct := Inv (i + 1), bk := D.nx } η3) ∧ (∀ η2, Inv xs.length η2 → D.nx η2)) : tForP ti g t D η := h
theorem w_rng1 (h : te η fun x η1 => match x with
 | .int j => -(2 ^ 62) ≤ j ∧ j < 2 ^ 62 ∧ QA (rangeP 0 j.toNat) η1
 | _ => False) : iRng1P te η QA := h
theorem rangeP_get {lo : Int} {n i : Nat} {x : PV} (h : (rangeP lo n)[i]? = some x) : i < n ∧ x = .int (lo + i) := by
 unfold rangeP at h
 rw [List.getElem?_map] at h
 by_cases hi : i < n
 ·rw [List.getElem?_range hi] at h
  cases h
  exact ⟨hi, rfl⟩
 ·rw [List.getElem?_eq_none (by simpa using hi)] at h; cases h
theorem rangeP_len {lo : Int} {n : Nat} : (rangeP lo n).length = n := by simp [rangeP]
theorem sz1 {a : PV} : [a].length ≤ sizeLine := by show 1 ≤ sizeLine; decide
theorem sz2 {a b : PV} : [a, b].length ≤ sizeLine := by show 2 ≤ sizeLine; decide
theorem sz3 {a b c : PV} : [a, b, c].length ≤ sizeLine := by show 3 ≤ sizeLine; decide
theorem w_gname {R : EP' → Prop} {x : PV} {η : EP'} {s : Nat} (h : R (η.set s (.va x))) : gNameP s x η R := h
theorem w_yes {QB : Bool → EP' → Prop} {η : EP'} (h : QB true η) : tYesP η QB := h
theorem w_join {ta tb : TEp} {η : EP'} {Q : PV → EP' → Prop} (h : ta η fun x η1 => (∃ z, x = .str z) ∧ tb η1 fun y η2 => match x, y with
 | .str z, .lst xs => ∃ ys, strsOf xs = some ys ∧ (ys.map (·.length)).sum + ys.length * z.length ≤ 16777216 ∧ Q (.str (Txt.join z ys)) η2
 | _, _ => False) : tJoinP ta tb η Q := h
theorem w_slice {te : TEp} {tl th : TOp} {η : EP'} {Q : PV → EP' → Prop} (h : te η fun x η1 => tl η1 fun l η2 => th η2 fun u η3 => rSlP x l u fun z => Q z η3) : tSliceP te tl th η Q := h
theorem w_nop {η : EP'} {P : Option Int → EP' → Prop} (h : P none η) : tNoPartP η P := h
theorem w_part {te : TEp} {η : EP'} {P : Option Int → EP' → Prop} (h : te η fun x η1 => match x with
 | .int i => P (some i) η1
 | _ => False) : tPartP te η P := h
theorem q_slS {z : Str} {lo hi : Option Int} {P : PV → Prop} (l : z.length ≤ sizeLine) (h : P (.str (cutS z lo hi))) : rSlP (.str z) lo hi P := ⟨l, h⟩
theorem q_slL {xs : List PV} {lo hi : Option Int} {P : PV → Prop} (h : P (.lst (cutP xs lo hi))) : rSlP (.lst xs) lo hi P := h
def callM (s : Nat) (sr : SpR) (args : List PV) (η : EP') (Q : PV → EP' → Prop) : Prop := match η[s]? with
 | some (.ow o) => sr o args fun z o' => Q z (η.set s (.ow o'))
 | _ => False
theorem w_callR {s : Nat} {sr : SpR} {tx : TAp} {η : EP'} {Q : PV → EP' → Prop} {o : Ow} (e : η[s]? = some (.ow o)) (h : tx η fun args η1 => callM s sr args η1 Q) : tCallRP s sr tx η Q := ⟨⟨o, e⟩, h⟩
theorem q_callM {s : Nat} {sr : SpR} {args : List PV} {η : EP'} {Q : PV → EP' → Prop} {o : Ow} (e : η[s]? = some (.ow o)) (h : sr o args fun z o' => Q z (η.set s (.ow o'))) : callM s sr args η Q := by unfold callM; rw [e]; exact h
def tStrs : List Str → TAp
 | [] => tNilP
 | w :: ws => tConsP (tConP (.str w)) (tStrs ws)
theorem w_strs {QA : List PV → EP' → Prop} {η : EP'} : ∀ {ws : List Str}, QA (ws.map .str) η → tStrs ws η QA
 | [], h => h
 | w :: ws, h => w_strs (ws := ws) (QA := fun xs η2 => QA (.str w :: xs) η2) h
end
section
variable {K : PySem.W.Frag} {C : Addr} {args : List PV} {P : PV → Prop} {PR : PV → Ow → Prop} {PF : List PV → Prop} {o : Ow}
theorem cmul_l {i j : Int} (h : 0 ≤ i) (h' : i < 1000000007) : CMul i j := .inl ⟨by omega, by omega⟩
theorem mod_lo {i : Int} : 0 ≤ i % 1000000007 := Int.emod_nonneg _ (by decide)
theorem mod_hi {i : Int} : i % 1000000007 < 1000000007 := Int.emod_lt_of_pos _ (by decide)
theorem rd_law_draw (h : sp_law_draw K C o args PR) : ts_law_draw K C { nx := fun η' => ∃ o', η'[0]? = some (Sl.ow o') ∧ PR .non o', rt := fun x η' => ∃ o', η'[0]? = some (Sl.ow o') ∧ PR x o' } (startR 4 o args) := by
 obtain ⟨m, ⟨s, d, c, rfl, h1, h2, h3⟩, rfl, m1, m2, hp⟩ := h
 have e : startR 4 (.l [.int s, .int d, .int c]) [.int m] = [.ow (.l [.int s, .int d, .int c]), .va (.int m), .no, .no] := rfl
 simp only [ts_law_draw, e, tLcP, tForP, iStrP, iListP, iTupP, iRng1P, iRng2P, iEnumP, wipeP, tAppP, tJoinP, tSeqP, tRetP, tRetNP, tIfSP, tNextP, tNevP, tSetP, tSetFP, tDropP, tAsgP, gNameP, gNilP, gConsP, gTupP, tAndVP, tNotVP, tOrVP, tCBP, tConsP, tNilP, tVarP, tConP, tBlP, tOrP, tAndP, tNotP, tOpP, tChainP, tCallP, tCallFP, tTupP, tLstP, tLstFP, tValP, tIfP, tNegP, tSliceP, tNoPartP, tPartP, tSeqFP, tYesP, frz, List.getElem?_cons_zero, List.getElem?_cons_succ, List.set_cons_zero, List.set_cons_succ, List.append_nil, List.length_cons, List.length_nil, Nat.zero_add]
 refine q_ixO rfl rfl (q_add (q_setO rfl rfl (q_ixO rfl rfl (q_mod (by decide) (q_add (q_mul (cmul_l h1 h2) ?_))))))
 refine q_ixO rfl rfl (q_mul (.inl ⟨by decide, by decide⟩) (q_add (q_add (q_mod (by decide) (q_setO rfl rfl ?_)))))
 refine q_ixO rfl rfl (q_gt (q_ite (fun hd => ?_) fun hd => ?_))
 ·refine q_ixO rfl rfl (q_divmodW (cdivW m1 m2) ⟨rfl, q_setO rfl rfl ⟨rfl, _, rfl, ?_⟩⟩)
  exact hp _ _ ⟨_, _, _, rfl, mod_lo, mod_hi, Int.ediv_nonneg h3 (by omega)⟩ (Int.emod_nonneg _ (by omega)) (Int.emod_lt_of_pos _ m1)
 ·refine q_ixO rfl rfl ?_
  refine q_div ⟨by decide, by decide⟩ ?_
  refine q_mod m1 ⟨_, rfl, ?_⟩
  exact hp _ _ ⟨_, _, _, rfl, mod_lo, mod_hi, h3⟩ (Int.emod_nonneg _ (by omega)) (Int.emod_lt_of_pos _ m1)
theorem rd_law_pool (h : sp_law_pool K C args PF) : ts_law_pool K C (startP 2 args) (fun xs _ => PF xs) := by
 obtain ⟨c, rfl, hp⟩ := h
 have e : startP 2 [.int c] = [.va (.int c), .no] := rfl
 simp only [ts_law_pool, e, tLcP, tForP, iStrP, iListP, iTupP, iRng1P, iRng2P, iEnumP, wipeP, tAppP, tJoinP, tSeqP, tRetP, tRetNP, tIfSP, tNextP, tNevP, tSetP, tSetFP, tDropP, tAsgP, gNameP, gNilP, gConsP, gTupP, tAndVP, tNotVP, tOrVP, tCBP, tConsP, tNilP, tVarP, tConP, tBlP, tOrP, tAndP, tNotP, tOpP, tChainP, tCallP, tCallFP, tTupP, tLstP, tLstFP, tValP, tIfP, tNegP, tSliceP, tNoPartP, tPartP, tSeqFP, tYesP, frz, List.getElem?_cons_zero, List.getElem?_cons_succ, List.set_cons_zero, List.set_cons_succ, List.append_nil, List.length_cons, List.length_nil, Nat.zero_add]
 have hz : 10 ≤ sizeLine := by decide
 have key : ∀ d : Int, 0 ≤ d → PF [.int (c % 1000000007), .int d, .int 0] := fun d hd => hp _ _ mod_lo mod_hi hd
 refine q_lt (q_ite (fun hc => ?_) fun hc => ?_)
 ·refine q_it ?_
  refine q_abs ?_
  refine q_mod (by decide) ?_
  exact ⟨by omega, key _ (by split <;> omega)⟩
 ·refine q_pow ⟨by decide, by decide, by decide⟩ ?_
  refine q_ge (q_ite (fun hd => ?_) fun hd => ?_)
  ·refine q_abs ?_
   refine q_mod (by decide) ?_
   exact ⟨by omega, key _ (by split <;> omega)⟩
  ·refine q_mod (by decide) ?_
   exact ⟨by omega, key 0 (by decide)⟩
theorem atI_in {α : Type} {xs : List α} {k : Int} (h0 : 0 ≤ k) (h1 : k < xs.length) : ∃ v, atI xs k = some v ∧ xs[k.toNat]? = some v := by
 have h : k.toNat < xs.length := by omega
 refine ⟨xs[k.toNat], ?_, by simp [h]⟩
 have := atI_nat (xs := xs) (j := k.toNat) (v := xs[k.toNat]) (by simp [h])
 rwa [Int.toNat_of_nonneg h0] at this
theorem rd_law_cell (h : sp_law_cell K C args P) : ts_law_cell K C { nx := fun _ => P .non, rt := fun x _ => P x } (startP 4 args) := by
 obtain ⟨ns, k, rfl, hk, hk', hp⟩ := h
 have e : startP 4 [.scr ns, .int k] = [.va (.scr ns), .va (.int k), .no, .no] := rfl
 simp only [ts_law_cell, e, tLcP, tForP, iStrP, iListP, iTupP, iRng1P, iRng2P, iEnumP, wipeP, tAppP, tJoinP, tSeqP, tRetP, tRetNP, tIfSP, tNextP, tNevP, tSetP, tSetFP, tDropP, tAsgP, gNameP, gNilP, gConsP, gTupP, tAndVP, tNotVP, tOrVP, tCBP, tConsP, tNilP, tVarP, tConP, tBlP, tOrP, tAndP, tNotP, tOpP, tChainP, tCallP, tCallFP, tTupP, tLstP, tLstFP, tValP, tIfP, tNegP, tSliceP, tNoPartP, tPartP, tSeqFP, tYesP, frz, List.getElem?_cons_zero, List.getElem?_cons_succ, List.set_cons_zero, List.set_cons_succ, List.append_nil, List.length_cons, List.length_nil, Nat.zero_add]
 refine q_lenC (q_lt (q_ite (fun h1 => ?_) fun h1 => ?_))
 ·obtain ⟨v, hv, _⟩ := atI_in (xs := ns) hk h1
  exact q_ixC hv (hp v)
 ·refine q_mul (.inr ⟨by omega, by omega⟩) ?_
  refine q_mul (.inr ⟨by omega, by omega⟩) ?_
  refine q_add ?_
  refine q_add ?_
  refine q_mul (.inl ⟨by decide, by decide⟩) ?_
  refine q_mod (by decide) ?_
  refine ⟨fun i η => ∃ (c : Int) (t : Sl), η = [.va (.scr ns), .va (.int k), .va (.int c), t] ∧ 0 ≤ c ∧ c < 1000000007, ⟨_, _, rfl, mod_lo, mod_hi⟩, ?_, ?_⟩
  ·rintro i x η hi ⟨c, t, rfl, c1, c2⟩
   rw [List.getElem?_map] at hi
   cases q : (cutP ns none (some 3))[i]? with
   | none => rw [q] at hi; cases hi
   | some z =>
    rw [q] at hi; cases hi
    refine q_mul (cmul_l c1 c2) ?_
    refine q_add ?_
    refine q_mod (by decide) ?_
    exact ⟨_, _, rfl, mod_lo, mod_hi⟩
  ·rintro η ⟨c, t, rfl, _, _⟩
   exact hp c
def menu1 : List Str := [("book" : Str), ("cancel" : Str), ("exchange" : Str), ("shift" : Str), ("seats" : Str), ("undo" : Str), ("show" : Str), ("line" : Str), ("count" : Str), ("number" : Str), ("load" : Str), ("trip" : Str)]
def menu2 : List Str := [("none" : Str), ("cut" : Str), ("overfull" : Str), ("a" : Str), ("b" : Str), ("x" : Str), ("plan" : Str), ("route" : Str), ("fixed" : Str), ("full" : Str), ("goal" : Str), ("name" : Str)]
def menuL : List Str := menu1 ++ menu2
theorem at_map {α : Type} {f : α → PV} {xs : List α} {j : Int} (d : α) (h0 : 0 ≤ j) (h1 : j < xs.length) : atI (xs.map f) j = some (f (xs.getD j.toNat d)) := by
 have h : j.toNat < xs.length := by omega
 have e : (xs.map f)[j.toNat]? = some (f (xs.getD j.toNat d)) := by
  rw [List.getElem?_map, List.getElem?_eq_getElem h, List.getD_eq_getElem?_getD, List.getElem?_eq_getElem h]; rfl
 have := atI_nat e
 rwa [Int.toNat_of_nonneg h0] at this
theorem at_get {α : Type} {xs : List α} {j : Int} (d : α) (h0 : 0 ≤ j) (h1 : j < xs.length) : atI xs j = some (xs.getD j.toNat d) := by
 have h : j.toNat < xs.length := by omega
 have e : xs[j.toNat]? = some (xs.getD j.toNat d) := by
  rw [List.getElem?_eq_getElem h, List.getD_eq_getElem?_getD, List.getElem?_eq_getElem h]; rfl
 have := atI_nat e
 rwa [Int.toNat_of_nonneg h0] at this
def W0 (b n : Nat) : List Str := (List.range n).map fun k => menuL.getD ((b + 5 * k) % 24) Str.empty
def W1 (b n : Nat) : List Str := (List.range n).map fun k => strRep ⟨#[abc.cps.toList.getD ((b + 7 * k) % 26) 0]⟩ (1 + k % 8)
theorem Nms.take {ws : List Str} (n : Nat) (h : Nms ws) : Nms (ws.take n) := ⟨fun w hw => h.1 w (List.mem_of_mem_take hw), h.2.sublist (List.take_sublist n ws)⟩
theorem W0_nms : ∀ b < 24, Nms (W0 b 24) := by
 have : ∀ b < 24, ((W0 b 24).all fun w => isNm (.str w)) = true ∧ (W0 b 24).Nodup := by decide +kernel
 exact fun b hb => ⟨fun w hw => List.all_eq_true.mp (this b hb).1 w hw, (this b hb).2⟩
theorem W1_nms : ∀ b < 24, Nms (W1 b 24) := by
 have : ∀ b < 24, ((W1 b 24).all fun w => isNm (.str w)) = true ∧ (W1 b 24).Nodup := by decide +kernel
 exact fun b hb => ⟨fun w hw => List.all_eq_true.mp (this b hb).1 w hw, (this b hb).2⟩
theorem map_take {α : Type} {f : Nat → α} {n m : Nat} (h : n ≤ m) : (List.range n).map f = ((List.range m).map f).take n := by
 rw [← List.map_take, List.take_range, Nat.min_eq_left h]
theorem W0_n {b n : Nat} (hb : b < 24) (hn : n ≤ 24) : Nms (W0 b n) := by
 unfold W0; rw [map_take hn]; exact (W0_nms b hb).take n
theorem W1_n {b n : Nat} (hb : b < 24) (hn : n ≤ 24) : Nms (W1 b n) := by
 unfold W1; rw [map_take hn]; exact (W1_nms b hb).take n
theorem joinL_nil : ∀ ps : List (List Nat), TL.joinL [] ps = ps.flatten
 | [] => rfl
 | [p] => by simp [TL.joinL]
 | p :: q :: r => by
  show p ++ ([] ++ TL.joinL [] (q :: r)) = _
  rw [joinL_nil (q :: r)]; simp
theorem flat_ones : ∀ cs : List Nat, (cs.map fun c => [c]).flatten = cs
 | [] => rfl
 | c :: cs => by rw [List.map_cons, List.flatten_cons, flat_ones cs]; rfl
theorem join_ones (cs : List Nat) : Txt.join Str.empty (cs.map fun c => (⟨#[c]⟩ : Str)) = ⟨cs.toArray⟩ := by
 have h : TL.tl (Txt.join Str.empty (cs.map fun c => (⟨#[c]⟩ : Str))) = cs := by
  rw [TL.join_eq, TL.tl_join, show TL.tl Str.empty = [] from rfl, joinL_nil, List.map_map]
  exact flat_ones cs
 have : ∀ a : Str, a = ⟨(TL.tl a).toArray⟩ := fun a => by cases a; simp
 rw [this (Txt.join _ _), h]
theorem strsOf_map {α : Type} (f : α → Str) : ∀ cs : List α, strsOf (cs.map fun c => PV.str (f c)) = some (cs.map f)
 | [] => rfl
 | c :: cs => by rw [List.map_cons, strsOf, strsOf_map f cs]; rfl
def W2 (st : List Nat) (p b n : Nat) : List Str := (List.range n).map fun k => ⟨(st.take p ++ (abc.cps.toList.getD ((b + 5 * k) % 26) 0 :: st.drop p)).toArray⟩
theorem lets_nd : ∀ b < 24, ((List.range 24).map fun k => abc.cps.toList.getD ((b + 5 * k) % 26) 0).Nodup := by decide +kernel
theorem lets_in : ∀ j < 26, abc.cps.toList.getD j 0 ∈ abc.cps.toList := by decide +kernel
theorem W2_n {st : List Nat} {p b n : Nat} (hs : ∀ c ∈ st, c ∈ abc.cps.toList) (hl : st.length ≤ 7) (hb : b < 24) (hn : n ≤ 24) : Nms (W2 st p b n) := by
 refine ⟨fun w hw => ?_, ?_⟩
 ·unfold W2 at hw
  obtain ⟨k, hk, rfl⟩ := List.mem_map.mp hw
  have e : (st.take p).length + (st.drop p).length = st.length := by rw [← List.length_append, List.take_append_drop]
  have e1 : (⟨(st.take p ++ (abc.cps.toList.getD ((b + 5 * k) % 26) 0 :: st.drop p)).toArray⟩ : Str).length = st.length + 1 := by
   show ((st.take p ++ (abc.cps.toList.getD ((b + 5 * k) % 26) 0 :: st.drop p)).toArray).size = _
   rw [List.size_toArray, List.length_append, List.length_cons]; omega
  show (decide (1 ≤ _) && (decide (_ ≤ 8) && List.all _ _)) = true
  rw [e1, decide_eq_true (by omega), decide_eq_true (by omega), Bool.true_and, Bool.true_and]
  refine List.all_eq_true.mpr fun c hc => decide_eq_true ?_
  have hc : c ∈ st.take p ++ (abc.cps.toList.getD ((b + 5 * k) % 26) 0 :: st.drop p) := by simpa using hc
  rcases List.mem_append.mp hc with h | h
  ·exact hs c (List.mem_of_mem_take h)
  ·rcases List.mem_cons.mp h with h | h
   ·rw [h]; exact lets_in _ (Nat.mod_lt _ (by decide))
   ·exact hs c (List.mem_of_mem_drop h)
 ·have : (W2 st p b 24).Nodup := by
   have h := lets_nd b hb
   unfold W2
   rw [show (fun k => (⟨(st.take p ++ (abc.cps.toList.getD ((b + 5 * k) % 26) 0 :: st.drop p)).toArray⟩ : Str)) = (fun c : Nat => (⟨(st.take p ++ (c :: st.drop p)).toArray⟩ : Str)) ∘ (fun k => abc.cps.toList.getD ((b + 5 * k) % 26) 0) from rfl, ← List.map_map]
   refine List.Pairwise.map _ (fun c d hcd e => ?_) h
   have e' : st.take p ++ (c :: st.drop p) = st.take p ++ (d :: st.drop p) := by simpa using congrArg (fun s : Str => s.cps.toList) e
   exact hcd (List.cons.inj (List.append_cancel_left e')).1
  unfold W2 at this ⊢
  rw [map_take hn]
  exact this.sublist (List.take_sublist _ _)
theorem rd_law_words (h : sp_law_words K C o args PR) : ts_law_words K C { nx := fun η' => ∃ o', η'[0]? = some (Sl.ow o') ∧ PR .non o', rt := fun x η' => ∃ o', η'[0]? = some (Sl.ow o') ∧ PR x o' } (startR 9 o args) := by
 obtain ⟨m, po, rfl, m0, m1, hp⟩ := h
 have e : startR 9 o [.int m] = [.ow o, .va (.int m), .no, .no, .no, .no, .no, .no, .no] := rfl
 rw [e]
 have z24 : 24 < sizeLine := by decide
 refine w_seq (w_set (w_con ?_))
 dsimp only
 refine w_seq (w_set (w_lst (w_strs (ws := menu1) ⟨by decide, ?_⟩)))
 dsimp only
 refine w_seq (w_set (w_op (w_var rfl (w_lst (w_strs (ws := menu2) ⟨by decide, q_addL (by decide) ?_⟩)))))
 dsimp only
 rw [← List.map_append]
 refine w_seq (w_asg (w_tup (w_cons (q_draw rfl rfl po (by decide) (by decide) fun o1 wy p1 wy0 wy1 => ?_))))
 refine w_cons (q_draw rfl rfl p1 (by decide) (by decide) fun o2 b p2 b0 b1 => ?_)
 refine w_nil ⟨sz2, rfl, rfl, ?_⟩
 obtain ⟨b, rfl⟩ := Int.eq_ofNat_of_zero_le b0
 have hb : b < 24 := by omega
 simp only [List.set_cons_zero, List.set_cons_succ]
 refine w_seq (w_if (w_bl (w_op (w_var rfl (w_con (q_eq ?_))))))
 simp only [List.set_cons_zero, List.set_cons_succ]
 refine q_ite (fun hw => ?_) fun hw => ?_
 ·refine w_ret (w_val (w_lc (w_rng1 (w_var rfl ⟨by omega, by omega, ?_⟩))))
  refine ⟨fun i acc η => acc = (W0 b i).map .str ∧ η = [.ow o2, .va (.int m), .va (.str abc), .va (.lst (menuL.map .str)), .va (.int wy), .va (.int b), .no, .no, .no], ⟨rfl, rfl⟩, ?_, ?_⟩
  ·rintro i x acc η hi ⟨rfl, rfl⟩
   obtain ⟨hn, rfl⟩ := rangeP_get hi
   have hz : ((W0 b i).map PV.str).length < sizeLine := by simp [W0]; omega
   refine w_gname (w_yes (q_iteT ?_))
   refine w_op (w_var rfl (w_op (w_op (w_var rfl (w_op (w_con (w_var rfl (q_mul (.inl ⟨by decide, by decide⟩) (q_add (w_con (q_mod (by decide) ?_)))))))))))
   have ej : ((b : Int) + 5 * (0 + (i : Int))) % 24 = (((b + 5 * i) % 24 : Nat) : Int) := by omega
   refine q_ix (x := .str (menuL.getD ((b + 5 * i) % 24) Str.empty)) ?_ ⟨hz, ?_, rfl⟩
   ·rw [ej]
    exact at_map Str.empty (by omega) (by show _ < ((24 : Nat) : Int); omega)
   ·unfold W0; rw [List.range_succ, List.map_append, List.map_append]; rfl
  ·rintro acc η ⟨rfl, rfl⟩
   rw [rangeP_len]
   exact ⟨o2, rfl, hp o2 _ p2 (by simp [W0]) (W0_n hb (by omega))⟩
 refine w_next ?_
 simp only [List.set_cons_zero, List.set_cons_succ]
 refine w_seq (w_if (w_bl (w_op (w_var rfl (w_con (q_eq ?_))))))
 simp only [List.set_cons_zero, List.set_cons_succ]
 refine q_ite (fun hw => ?_) fun hw => ?_
 ·refine w_ret (w_val (w_lc (w_rng1 (w_var rfl ⟨by omega, by omega, ?_⟩))))
  refine ⟨fun i acc η => acc = (W1 b i).map .str ∧ η = [.ow o2, .va (.int m), .va (.str abc), .va (.lst (menuL.map .str)), .va (.int wy), .va (.int b), .no, .no, .no], ⟨rfl, rfl⟩, ?_, ?_⟩
  ·rintro i x acc η hi ⟨rfl, rfl⟩
   obtain ⟨hn, rfl⟩ := rangeP_get hi
   have hz : ((W1 b i).map PV.str).length < sizeLine := by simp [W1]; omega
   refine w_gname (w_yes (q_iteT ?_))
   refine w_op (w_op (w_var rfl (w_op (w_op (w_var rfl (w_op (w_con (w_var rfl (q_mul (.inl ⟨by decide, by decide⟩) (q_add (w_con (q_mod (by decide) ?_))))))))))))
   have ej : ((b : Int) + 7 * (0 + (i : Int))) % 26 = (((b + 7 * i) % 26 : Nat) : Int) := by omega
   refine q_ixS (by decide) (by rw [ej]; exact at_get 0 (by omega) (by show _ < ((26 : Nat) : Int); omega)) ?_
   refine w_op (w_con (w_op (w_var rfl (w_con (q_mod (by decide) (q_add ?_))))))
   refine q_mulS (by omega) (by omega) (by show 1 ≤ 1000; decide) ⟨hz, ?_, rfl⟩
   have e8 : ((1 : Int) + (0 + (i : Int)) % 8).toNat = 1 + i % 8 := by omega
   have e7 : (((b + 7 * i) % 26 : Nat) : Int).toNat = (b + 7 * i) % 26 := by omega
   unfold W1; rw [List.range_succ, List.map_append, List.map_append, e8, e7]; rfl
  ·rintro acc η ⟨rfl, rfl⟩
   rw [rangeP_len]
   exact ⟨o2, rfl, hp o2 _ p2 (by simp [W1]) (W1_n hb (by omega))⟩
 refine w_next ?_
 simp only [List.set_cons_zero, List.set_cons_succ]
 refine w_seq (w_set (w_join (w_con ⟨⟨_, rfl⟩, w_val (w_lc (w_rng1 (q_draw rfl rfl p2 (by decide) (by decide) fun o3 l p3 l0 l1 => ?_)))⟩)))
 refine ⟨by omega, by omega, ?_⟩
 refine ⟨fun i acc η => ∃ cs : List Nat, acc = cs.map (fun c => .str ⟨#[c]⟩) ∧ cs.length = i ∧ (∀ c ∈ cs, c ∈ abc.cps.toList) ∧ ∃ o', Pool o' ∧ η = [.ow o', .va (.int m), .va (.str abc), .va (.lst (menuL.map .str)), .va (.int wy), .va (.int b), .no, .no, .no], ⟨[], rfl, rfl, fun _ h => (by cases h), o3, p3, rfl⟩, ?_, ?_⟩
 ·rintro i x acc η hi ⟨cs, rfl, hcl, hcs, o', p', rfl⟩
  obtain ⟨hn, rfl⟩ := rangeP_get hi
  refine w_gname (w_yes (q_iteT ?_))
  refine w_op (w_var rfl (q_draw rfl rfl p' (by decide) (by decide) fun o'' j p'' j0 j1 => ?_))
  refine q_ixS (by decide) (at_get 0 j0 (by show _ < ((26 : Nat) : Int); omega)) ⟨by rw [List.length_map]; omega, ?_⟩
  refine ⟨cs ++ [abc.cps.toList.getD j.toNat 0], by rw [List.map_append]; rfl, by simp [hcl], fun c hc => ?_, o'', p'', rfl⟩
  rcases List.mem_append.mp hc with h | h
  ·exact hcs c h
  ·rw [List.mem_singleton.mp h]; exact lets_in _ (by omega)
 rintro acc η ⟨cs, rfl, hcl, hcs, o4, p4, rfl⟩
 rw [rangeP_len] at hcl
 refine ⟨cs.map fun c => ⟨#[c]⟩, strsOf_map _ cs, ?_, ?_⟩
 ·have : ((cs.map fun c => (⟨#[c]⟩ : Str)).map (·.length)).sum = cs.length := by
   rw [List.map_map]
   have : ∀ cs : List Nat, (cs.map ((·.length) ∘ fun c => (⟨#[c]⟩ : Str))).sum = cs.length := fun cs => by
    induction cs with
    | nil => rfl
    | cons c cs ih => rw [List.map_cons, List.sum_cons, ih, List.length_cons]; show 1 + _ = _; omega
   exact this cs
  rw [this, show (Str.ofString "").length = 0 from rfl]
  omega
 rw [show (Str.ofString "" : Str) = Str.empty from rfl, join_ones]
 simp only [List.set_cons_zero, List.set_cons_succ]
 have hst : (⟨cs.toArray⟩ : Str).length = cs.length := by show cs.toArray.size = _; simp
 refine w_seq (w_set (w_callR rfl (w_cons (w_op (w_cb (w_cons (w_var rfl (w_nil (q_lenS (by rw [hst]; omega) (w_con (q_add (w_nil (q_callM rfl ?_)))))))))))))
 refine ⟨_, p4, rfl, by omega, by rw [hst]; omega, fun o5 pI p5 pi0 pi1 => ?_⟩
 rw [hst] at pi1
 obtain ⟨p, rfl⟩ := Int.eq_ofNat_of_zero_le pi0
 have hpl : p ≤ cs.length := by omega
 simp only [List.set_cons_zero, List.set_cons_succ]
 refine w_ret (w_val (w_lc (w_rng1 (w_var rfl ⟨by omega, by omega, ?_⟩))))
 refine ⟨fun i acc η => acc = (W2 cs p b i).map .str ∧ η = [.ow o5, .va (.int m), .va (.str abc), .va (.lst (menuL.map .str)), .va (.int wy), .va (.int b), .va (.str ⟨cs.toArray⟩), .va (.int p), .no], ⟨rfl, rfl⟩, ?_, ?_⟩
 ·rintro i x acc η hi ⟨rfl, rfl⟩
  obtain ⟨hn, rfl⟩ := rangeP_get hi
  have hz : ((W2 cs p b i).map PV.str).length < sizeLine := by simp [W2]; omega
  have ej : ((b : Int) + 5 * (0 + (i : Int))) % 26 = (((b + 5 * i) % 26 : Nat) : Int) := by omega
  have hs8 : 100 < sizeLine := by decide
  refine w_gname (w_yes (q_iteT ?_))
  refine w_op (w_op (w_slice (w_var rfl (w_nop (w_part (w_var rfl (q_slS (by rw [hst]; omega) ?_)))))))
  refine w_op (w_var rfl (w_op (w_op (w_var rfl (w_op (w_con (w_var rfl (q_mul (.inl ⟨by decide, by decide⟩) (q_add (w_con (q_mod (by decide) ?_)))))))))))
  refine q_ixS (by decide) (by rw [ej]; exact at_get 0 (by omega) (by show _ < ((26 : Nat) : Int); omega)) ?_
  have l1 := cutS_length ⟨cs.toArray⟩ none (some (p : Int))
  have l2 := cutS_length ⟨cs.toArray⟩ (some (p : Int)) none
  refine q_addS (by rw [hst] at l1; show _ + 1 ≤ _; omega) ?_
  refine w_slice (w_var rfl (w_part (w_var rfl (w_nop (q_slS (by rw [hst]; omega) ?_)))))
  refine q_addS (by rw [hst] at l1 l2; rw [Str.length_append]; show _ + 1 + _ ≤ _; omega) ⟨hz, ?_, rfl⟩
  unfold W2
  rw [List.range_succ, List.map_append, List.map_append]
  have e7 : (((b + 5 * i) % 26 : Nat) : Int).toNat = (b + 5 * i) % 26 := by omega
  have ec1 : cutS ⟨cs.toArray⟩ none (some (p : Int)) = ⟨(cs.take p).toArray⟩ := by
   unfold cutS
   rw [HT.sIx_nat, HT.sIx_none, hst, Nat.min_eq_left hpl]; simp
  have ec2 : cutS ⟨cs.toArray⟩ (some (p : Int)) none = ⟨(cs.drop p).toArray⟩ := by
   unfold cutS
   rw [HT.sIx_nat, HT.sIx_none, hst, Nat.min_eq_left hpl, List.take_of_length_le (by simp)]
  rw [ec1, ec2, e7]
  have : (⟨(cs.take p).toArray⟩ : Str) ++ (⟨#[abc.cps.toList.getD ((b + 5 * i) % 26) 0]⟩ : Str) ++ (⟨(cs.drop p).toArray⟩ : Str) = ⟨(cs.take p ++ (abc.cps.toList.getD ((b + 5 * i) % 26) 0 :: cs.drop p)).toArray⟩ := by
   show (⟨_ ++ _ ++ _⟩ : Str) = _
   congr 1
   simp
  rw [this]; rfl
 ·rintro acc η ⟨rfl, rfl⟩
  rw [rangeP_len]
  exact ⟨o5, rfl, hp o5 _ p5 (by simp [W2]) (W2_n hcs (by omega) hb (by omega))⟩
theorem w_par {is : List Nat} {tr : TArp} {D : EndsP} {η : EP'} (h : tr η fun ars η1 => ars.length = is.length ∧ okIx η1.length is ars ∧ D.nx (storesP is ars η1)) : tParP is tr D η := h
theorem w_arF {tf : TFp} {tr : TArp} {η : EP'} {Q : List Ar → EP' → Prop} (h : tf η fun xs η1 => tr η1 fun ars η2 => Q (.f xs :: ars) η2) : tConsF tf tr η Q := h
theorem w_arV {te : TEp} {tr : TArp} {η : EP'} {Q : List Ar → EP' → Prop} (h : te η fun x η1 => tr η1 fun ars η2 => Q (.v x :: ars) η2) : tConsV te tr η Q := h
theorem w_arN {η : EP'} {Q : List Ar → EP' → Prop} (h : Q [] η) : tNilAr η Q := h
def appM (s : Nat) (x : PV) (η : EP') (R : EP' → Prop) : Prop := match η[s]? with
 | some (.ow (.l xs)) => xs.length < sizeLine ∧ R (η.set s (.ow (.l (xs ++ [x]))))
 | _ => False
theorem w_app {s : Nat} {te : TEp} {D : EndsP} {η : EP'} {xs : List PV} (e : η[s]? = some (.ow (.l xs))) (h : te η fun x η1 => appM s x η1 D.nx) : tAppP s te D η := ⟨⟨xs, e⟩, h⟩
theorem q_appM {s : Nat} {x : PV} {η : EP'} {R : EP' → Prop} {xs : List PV} (e : η[s]? = some (.ow (.l xs))) (l : xs.length < sizeLine) (h : R (η.set s (.ow (.l (xs ++ [x]))))) : appM s x η R := by unfold appM; rw [e]; exact ⟨l, h⟩
theorem pw_snoc {α : Type} {r : α → α → Prop} {xs : List α} {x : α} (h : xs.Pairwise r) (h' : ∀ y ∈ xs, r y x) : (xs ++ [x]).Pairwise r := List.pairwise_append.mpr ⟨h, List.pairwise_singleton _ _, fun a ha b hb => by rw [List.mem_singleton.mp hb]; exact h' a ha⟩
theorem rd_law_far (h : sp_law_far K C o args PR) : ts_law_far K C { nx := fun η' => ∃ o', η'[0]? = some (Sl.ow o') ∧ PR .non o', rt := fun x η' => ∃ o', η'[0]? = some (Sl.ow o') ∧ PR x o' } (startR 6 o args) := by
 obtain ⟨hh, po, rfl, h0, h30, hp⟩ := h
 have e : startR 6 o [.int hh] = [.ow o, .va (.int hh), .no, .no, .no, .no] := rfl
 rw [e]
 refine w_seq (w_par (w_arF (w_lstF (w_nil ⟨Nat.zero_le _, ?_⟩))))
 refine w_arV (q_draw rfl rfl po (by decide) (by decide) fun o1 he p1 he0 he1 => ?_)
 refine w_arV (q_draw rfl rfl p1 (by decide) (by decide) fun o2 wy p2 wy0 wy1 => ?_)
 refine w_arN ⟨rfl, ⟨by decide, by show 2 < 6; decide, trivial⟩, ?_⟩
 simp only [storesP, List.set_cons_zero, List.set_cons_succ]
 refine w_seq (w_for (w_rng1 (w_op (w_var rfl (w_con (q_add ⟨by omega, by omega, ?_⟩))))))
 refine ⟨fun i η => ∃ (o' : Ow) (xs : List Int) (here : Int) (t : Sl), Pool o' ∧ xs.length = i ∧ η = [.ow o', .va (.int hh), .ow (.l (xs.map .int)), .va (.int here), .va (.int wy), t] ∧ xs.Pairwise (· < ·) ∧ (∀ x ∈ xs, 0 ≤ x ∧ x < 10 ^ 40 ∧ (0 < wy → x < i) ∧ (¬ 0 < wy → x < here)) ∧ 0 ≤ here ∧ here ≤ 3 + i * (2 * 10 ^ 29), ?_, ?_, ?_⟩
 ·exact ⟨o2, [], he, .no, p2, rfl, rfl, .nil, fun _ h => (by cases h), he0, by omega⟩
 ·rintro i x η hi ⟨o', xs, here, t, p', hl, rfl, pw, hx, g0, g1⟩
  obtain ⟨hn, rfl⟩ := rangeP_get hi
  have hz : (xs.map PV.int).length < sizeLine := by have : 100 < sizeLine := (by decide); rw [List.length_map]; omega
  have hi31 : (i : Int) ≤ 30 := by omega
  have key : ∀ x : Int, (if 0 < wy then x = 0 + i else x = here) → ∃ η', (xs ++ [x]).Pairwise (· < ·) ∧ (∀ y ∈ xs ++ [x], 0 ≤ y ∧ y < 10 ^ 40 ∧ (0 < wy → y < ((i + 1 : Nat) : Int)) ∧ (¬ 0 < wy → y < here + 1)) ∧ η' = (0 : Nat) := by
   intro x hxe
   refine ⟨0, pw_snoc pw fun y hy => ?_, fun y hy => ?_, rfl⟩
   ·obtain ⟨a1, a2, a3, a4⟩ := hx y hy
    by_cases hw : 0 < wy
    ·rw [if_pos hw] at hxe; have := a3 hw; omega
    ·rw [if_neg hw] at hxe; have := a4 hw; omega
   ·rcases List.mem_append.mp hy with h | h
    ·obtain ⟨a1, a2, a3, a4⟩ := hx y h
     refine ⟨a1, a2, fun hw => ?_, fun hw => ?_⟩
     ·have := a3 hw; omega
     ·have := a4 hw; omega
    ·rw [List.mem_singleton.mp h]
     by_cases hw : 0 < wy
     ·rw [if_pos hw] at hxe; refine ⟨by omega, by omega, fun _ => by omega, fun q => absurd hw q⟩
     ·rw [if_neg hw] at hxe; refine ⟨by omega, by omega, fun q => absurd q hw, fun _ => by omega⟩
  have rest : ∀ x : Int, (if 0 < wy then x = 0 + i else x = here) → tSetP 3 (tOpP rAdd (tOpP rAdd (tVarP 3) (tConP (.int 1))) (tOpP rIxP (tLstP (tConsP (tConP (.int 0)) (tConsP (tCallRP 0 (sp_law_draw K C) (tConsP (tConP (.int 9)) (tNilP))) (tConsP (tOpP rPow (tConP (.int 10)) (tConP (.int 29))) (tNilP))))) (tCallRP 0 (sp_law_draw K C) (tConsP (tConP (.int 3)) (tNilP)))))
    { nx := fun η => ∃ (o' : Ow) (xs : List Int) (here : Int) (t : Sl), Pool o' ∧ xs.length = i + 1 ∧ η = [.ow o', .va (.int hh), .ow (.l (xs.map .int)), .va (.int here), .va (.int wy), t] ∧ xs.Pairwise (· < ·) ∧ (∀ x ∈ xs, 0 ≤ x ∧ x < 10 ^ 40 ∧ (0 < wy → x < ((i + 1 : Nat) : Int)) ∧ (¬ 0 < wy → x < here)) ∧ 0 ≤ here ∧ here ≤ 3 + ((i + 1 : Nat) : Int) * (2 * 10 ^ 29), rt := fun x η' => ∃ o', η'[0]? = some (Sl.ow o') ∧ PR x o' }
    [.ow o', .va (.int hh), .ow (.l ((xs ++ [x]).map .int)), .va (.int here), .va (.int wy), .va (.int (0 + i))] := by
   intro x hxe
   obtain ⟨_, k1, k2, _⟩ := key x hxe
   refine w_set (w_op (w_op (w_var rfl (w_con (q_add ?_)))))
   refine w_op (w_lst (w_cons (w_con (w_cons (q_draw rfl rfl p' (by decide) (by decide) fun o3 d p3 d0 d1 => ?_)))))
   refine w_cons (w_op (w_con (w_con (q_pow ⟨by decide, by decide, by decide⟩ (w_nil ⟨sz3, ?_⟩)))))
   refine q_draw rfl rfl p3 (by decide) (by decide) fun o4 j p4 j0 j1 => ?_
   have fin : ∀ v : Int, 0 ≤ v → v ≤ 10 ^ 29 → ∃ (o' : Ow) (xs' : List Int) (here' : Int) (t : Sl), Pool o' ∧ xs'.length = i + 1 ∧ [Sl.ow o4, .va (.int hh), .ow (.l ((xs ++ [x]).map .int)), .va (.int (here + 1 + v)), .va (.int wy), .va (.int (0 + i))] = [.ow o', .va (.int hh), .ow (.l (xs'.map .int)), .va (.int here'), .va (.int wy), t] ∧ xs'.Pairwise (· < ·) ∧ (∀ x ∈ xs', 0 ≤ x ∧ x < 10 ^ 40 ∧ (0 < wy → x < ((i + 1 : Nat) : Int)) ∧ (¬ 0 < wy → x < here')) ∧ 0 ≤ here' ∧ here' ≤ 3 + ((i + 1 : Nat) : Int) * (2 * 10 ^ 29) := by
    intro v v0 v1
    refine ⟨o4, xs ++ [x], here + 1 + v, _, p4, by simp [hl], rfl, k1, fun y hy => ?_, by omega, by omega⟩
    obtain ⟨a1, a2, a3, a4⟩ := k2 y hy
    exact ⟨a1, a2, a3, fun q => by have := a4 q; omega⟩
   obtain rfl | rfl | rfl : j = 0 ∨ j = 1 ∨ j = 2 := by omega
   ·exact q_ix (x := .int 0) rfl (q_add (fin 0 (by decide) (by decide)))
   ·exact q_ix (x := .int d) rfl (q_add (fin d d0 (by omega)))
   ·exact q_ix (x := .int (10 ^ 29)) rfl (q_add (fin (10 ^ 29) (by decide) (by decide)))
  refine w_gname ?_
  refine w_seq (w_app (xs := xs.map .int) rfl (w_ife (w_bl (w_op (w_var rfl (w_con (q_gt ?_)))))))
  refine q_ite (fun hw => ?_) fun hw => ?_
  ·refine w_var rfl (q_appM rfl hz ?_)
   have := rest (0 + i) (by rw [if_pos hw])
   rw [List.map_append] at this
   exact this
  ·refine w_var rfl (q_appM rfl hz ?_)
   have := rest here (by rw [if_neg hw])
   rw [List.map_append] at this
   exact this
 ·rintro η ⟨o', xs, here, t, p', hl, rfl, pw, hx, g0, g1⟩
  rw [rangeP_len] at hl
  dsimp only
  refine w_ret ?_
  refine w_varO (o := .l (xs.map .int)) rfl ?_
  exact ⟨o', rfl, hp o' xs p' (by rw [hl]) pw fun x q => ⟨(hx x q).1, (hx x q).2.1⟩⟩
theorem w_varL {xs : List PV} {η : EP'} {s : Nat} {Q : List PV → EP' → Prop} (e : η[s]? = some (.va (.lst xs))) (h : Q xs η) : iListP (tVarP s) η Q := by
 unfold iListP
 exact w_var e h
theorem dlt_rows {a b : Trip} (h : a.1 ≠ b.1) : PySem.W.dataLe false encD (rowP a) (rowP b) = true → a.1.cps.toList < b.1.cps.toList := by
 intro q
 have q' : (!PySem.W.dataLt (.tuple [.str b.1, .int b.2.1, .int b.2.2]) (.tuple [.str a.1, .int a.2.1, .int a.2.2])) = true := q
 rw [PySem.W.dataLt_tuple, PySem.W.dataLt_cons (by simp [PySem.W.alike])] at q'
 have hne : PyData.eqv (.str b.1) (.str a.1) = false := by
  simp only [PyData.eqv]
  exact beq_eq_false_iff_ne.mpr fun z => h z.symm
 rw [hne, if_neg Bool.false_ne_true, PySem.W.dataLt_str] at q'
 have nb : ¬ b.1.cps.toList < a.1.cps.toList := by simpa using q'
 have hl : a.1.cps.toList ≠ b.1.cps.toList := fun z => h (by
  have : a.1.cps = b.1.cps := Array.toList_inj.mp z
  cases ha : a.1; cases hb : b.1; rw [ha, hb] at this; simp at this; rw [this])
 exact Classical.byContradiction fun na => hl (List.le_antisymm (List.not_lt.mp nb) (List.not_lt.mp na))
theorem sort_rows {rows : List Trip} (hn : (rows.map (·.1)).Nodup) : ∃ rs : List Trip, (rows.map rowP).mergeSort (PySem.W.dataLe false encD) = rs.map rowP ∧ rs.Perm rows ∧ rs.Pairwise fun a b => a.1.cps.toList < b.1.cps.toList := by
 have T := PySem.W.sortLe_total (PyProof.Rows.listOrd PyProof.Rows.itemOrd) false fun b : PV => PySem.W.keyToks (encD b)
 refine ⟨rows.mergeSort fun a b => PySem.W.dataLe false encD (rowP a) (rowP b), ?_, List.mergeSort_perm _ _, ?_⟩
 ·exact (List.map_mergeSort (f := rowP) (r := fun a b => PySem.W.dataLe false encD (rowP a) (rowP b)) (s := PySem.W.dataLe false encD) (fun _ _ _ _ => rfl)).symm
 ·have hp := List.mergeSort_perm rows fun a b => PySem.W.dataLe false encD (rowP a) (rowP b)
  have h1 : (rows.mergeSort fun a b => PySem.W.dataLe false encD (rowP a) (rowP b)).Pairwise fun a b => PySem.W.dataLe false encD (rowP a) (rowP b) = true :=
   List.pairwise_mergeSort (le := fun a b => PySem.W.dataLe false encD (rowP a) (rowP b)) (fun a b c p q => T.trans (rowP a) (rowP b) (rowP c) p q) (fun a b => by
    rcases T.total (rowP a) (rowP b) with p | p
    ·exact Bool.or_eq_true_iff.mpr (.inl p)
    ·exact Bool.or_eq_true_iff.mpr (.inr p)) rows
  have h2 : ((rows.mergeSort fun a b => PySem.W.dataLe false encD (rowP a) (rowP b)).map (·.1)).Nodup := (hp.map _).nodup_iff.mpr hn
  have h3 := List.pairwise_map.mp h2
  exact (h1.and h3).imp fun p => dlt_rows p.2 p.1
def rowD (r : Trip) : PyData := .tuple [.str r.1, .int r.2.1, .int r.2.2]
theorem toDs_rows : ∀ rs : List Trip, toDs (rs.map rowP) = some (rs.map rowD)
 | [] => rfl
 | r :: rs => by
  rw [List.map_cons, toDs, toDs_rows rs]
  rfl
theorem alike_rows (rs : List Trip) : PySem.W.AllAlike (rs.map rowD) := fun d hd d' hd' => by
 obtain ⟨a, _, rfl⟩ := List.mem_map.mp hd
 obtain ⟨b, _, rfl⟩ := List.mem_map.mp hd'
 simp [rowD, PySem.W.alike, PySem.W.alikeAll]
theorem q_sort {rows : List Trip} (hn : (rows.map (·.1)).Nodup) (hl : rows.length ≤ 24) (h : ∀ rs : List Trip, rs.Perm rows → (rs.Pairwise fun a b => a.1.cps.toList < b.1.cps.toList) → P (.lst (rs.map rowP))) : rSortD [.lst (rows.map rowP)] P := by
 refine ⟨_, toDs_rows rows, alike_rows rows, .inl fun d hd => ?_, fun x hx => ?_, ?_, ?_⟩
 ·obtain ⟨a, _, rfl⟩ := List.mem_map.mp hd
  exact ⟨_, _, rfl⟩
 ·obtain ⟨a, _, rfl⟩ := List.mem_map.mp hx
  show (PyData.tuple [.str a.1, .int a.2.1, .int a.2.2]).depth ≤ 50
  simp [PyData.depth, PyData.depthAll]
 ·have : 24 ≤ sizeLine := by decide
  rw [List.length_map]; omega
 ·obtain ⟨rs, e, p, s⟩ := sort_rows hn
  rw [e]; exact h rs p s
theorem rd_law_rides (h : sp_law_rides K C o args PR) : ts_law_rides K C { nx := fun η' => ∃ o', η'[0]? = some (Sl.ow o') ∧ PR .non o', rt := fun x η' => ∃ o', η'[0]? = some (Sl.ow o') ∧ PR x o' } (startR 9 o args) := by
 obtain ⟨ws, hh, po, rfl, hw, hwl, h1, h30, hp⟩ := h
 have e : startR 9 o [.lst (ws.map .str), .int hh] = [.ow o, .va (.lst (ws.map .str)), .va (.int hh), .no, .no, .no, .no, .no, .no] := rfl
 rw [e]
 have sz : 100 < sizeLine := by decide
 refine w_seq (w_par (w_arV (w_callR rfl (w_cons (w_var rfl (w_nil (q_callM rfl ⟨hh, po, rfl, by omega, h30, fun o1 ps p1 pl pw pb => ?_⟩)))))))
 refine w_arF (w_lstF (w_nil ⟨Nat.zero_le _, ?_⟩))
 refine w_arV (w_con (w_arN ⟨rfl, ⟨by decide, by show 4 < 9; decide, trivial⟩, ?_⟩))
 simp only [storesP, List.set_cons_zero, List.set_cons_succ]
 refine w_seq (w_for ?_)
 refine w_varL rfl ?_
 refine ⟨fun i η => ∃ (o' : Ow) (rows : List Trip) (last : Int) (a b c : Sl), Pool o' ∧ rows.map (·.1) = ws.take i ∧ η = [.ow o', .va (.lst (ws.map .str)), .va (.int hh), .va (.lst (ps.map .int)), .ow (.l (rows.map rowP)), .va (.int last), a, b, c] ∧ (∀ r ∈ rows, 0 ≤ r.2.1 ∧ r.2.1 < r.2.2 ∧ r.2.2 < 10 ^ 40) ∧ 0 ≤ last ∧ last ≤ hh, ?_, ?_, ?_⟩
 ·exact ⟨o1, [], 0, .no, .no, .no, p1, rfl, rfl, fun _ h => (by cases h), by decide, by omega⟩
 ·rintro i x η hi ⟨o', rows, last, a, b, c, p', hr, rfl, hb, l0, l1⟩
  rw [List.getElem?_map] at hi
  cases q : ws[i]? with
  | none => rw [q] at hi; cases hi
  | some w =>
   rw [q] at hi; cases hi
   have hil : i < ws.length := (List.getElem?_eq_some_iff.mp q).1
   have hrl : rows.length = i := by have := congrArg List.length hr; rw [List.length_map, List.length_take] at this; omega
   refine w_gname ?_
   simp only [List.set_cons_zero, List.set_cons_succ]
   refine w_seq (w_set (q_draw rfl rfl p' (by decide) (by decide) fun o2 wy p2 wy0 wy1 => ?_))
   simp only [List.set_cons_zero, List.set_cons_succ]
   -- behind begin
   have rest : ∀ (o3 : Ow) (bg : Int), Pool o3 → 0 ≤ bg → bg < hh →
    tSeqP (tSetP 5 (tOpP rAdd (tOpP rAdd (tVarP 8) (tConP (.int 1))) (tCallRP 0 (sp_law_draw K C) (tConsP (tIfP (tBlP (tOpP rGt (tOpP rSub (tVarP 2) (tVarP 8)) (tConP (.int 1)))) (tOpP rIxP (tLstP (tConsP (tConP (.int 1)) (tConsP (tConP (.int 2)) (tConsP (tOpP rSub (tVarP 2) (tVarP 8)) (tConsP (tOpP rSub (tVarP 2) (tVarP 8)) (tNilP)))))) (tVarP 7)) (tConP (.int 1))) (tNilP))))) (tSeqP (tSetP 5 (tCBP rMin2 (tConsP (tVarP 5) (tConsP (tVarP 2) (tNilP))))) (tAppP 4 (tTupP (tConsP (tVarP 6) (tConsP (tOpP rIxP (tVarP 3) (tVarP 8)) (tConsP (tOpP rIxP (tVarP 3) (tVarP 5)) (tNilP)))))))
    { nx := fun η => ∃ (o' : Ow) (rows : List Trip) (last : Int) (a b c : Sl), Pool o' ∧ rows.map (·.1) = ws.take (i + 1) ∧ η = [.ow o', .va (.lst (ws.map .str)), .va (.int hh), .va (.lst (ps.map .int)), .ow (.l (rows.map rowP)), .va (.int last), a, b, c] ∧ (∀ r ∈ rows, 0 ≤ r.2.1 ∧ r.2.1 < r.2.2 ∧ r.2.2 < 10 ^ 40) ∧ 0 ≤ last ∧ last ≤ hh, rt := fun x η' => ∃ o', η'[0]? = some (Sl.ow o') ∧ PR x o' }
    [.ow o3, .va (.lst (ws.map .str)), .va (.int hh), .va (.lst (ps.map .int)), .ow (.l (rows.map rowP)), .va (.int last), .va (.str w), .va (.int wy), .va (.int bg)] := by
    intro o3 bg p3 bg0 bg1
    have fin : ∀ (m : Int), 0 < m → m ≤ 100 → callM 0 (sp_law_draw K C) [.int m] [.ow o3, .va (.lst (ws.map .str)), .va (.int hh), .va (.lst (ps.map .int)), .ow (.l (rows.map rowP)), .va (.int last), .va (.str w), .va (.int wy), .va (.int bg)] fun z η2 => rAdd (.int (bg + 1)) z fun z =>
     tSeqP (tSetP 5 (tCBP rMin2 (tConsP (tVarP 5) (tConsP (tVarP 2) (tNilP))))) (tAppP 4 (tTupP (tConsP (tVarP 6) (tConsP (tOpP rIxP (tVarP 3) (tVarP 8)) (tConsP (tOpP rIxP (tVarP 3) (tVarP 5)) (tNilP))))))
      { nx := fun η => ∃ (o' : Ow) (rows : List Trip) (last : Int) (a b c : Sl), Pool o' ∧ rows.map (·.1) = ws.take (i + 1) ∧ η = [.ow o', .va (.lst (ws.map .str)), .va (.int hh), .va (.lst (ps.map .int)), .ow (.l (rows.map rowP)), .va (.int last), a, b, c] ∧ (∀ r ∈ rows, 0 ≤ r.2.1 ∧ r.2.1 < r.2.2 ∧ r.2.2 < 10 ^ 40) ∧ 0 ≤ last ∧ last ≤ hh, rt := fun x η' => ∃ o', η'[0]? = some (Sl.ow o') ∧ PR x o' } (η2.set 5 (.va z)) := by
     intro m m0 m1
     refine q_callM rfl ⟨m, p3, rfl, m0, by omega, fun o4 d p4 d0 d1 => ?_⟩
     refine q_add ?_
     simp only [List.set_cons_zero, List.set_cons_succ]
     refine w_seq (w_set (w_cb (w_cons (w_var rfl (w_cons (w_var rfl (w_nil (q_min ?_))))))))
     simp only [List.set_cons_zero, List.set_cons_succ]
     obtain ⟨nl, hnl, n0, n1⟩ : ∃ nl : Int, (if hh < bg + 1 + d then hh else bg + 1 + d) = nl ∧ bg < nl ∧ nl ≤ hh := ⟨_, rfl, by split <;> omega, by split <;> omega⟩
     rw [hnl]
     refine w_app (xs := rows.map rowP) rfl (w_tup (w_cons (w_var rfl (w_cons (w_op (w_var rfl (w_var rfl ?_)))))))
     have pll : (ps.length : Int) = hh + 1 := by omega
     refine q_ix (at_map 0 bg0 (by omega)) ?_
     refine w_cons (w_op (w_var rfl (w_var rfl ?_)))
     refine q_ix (at_map 0 (by omega) (by omega)) (w_nil ⟨sz3, ?_⟩)
     refine q_appM rfl (by rw [List.length_map]; omega) ?_
     have ib : bg.toNat < ps.length := by omega
     have ie : nl.toNat < ps.length := by omega
     have eb : ps.getD bg.toNat 0 = ps[bg.toNat] := by rw [List.getD_eq_getElem?_getD, List.getElem?_eq_getElem ib]; rfl
     have ee : ps.getD nl.toNat 0 = ps[nl.toNat] := by rw [List.getD_eq_getElem?_getD, List.getElem?_eq_getElem ie]; rfl
     rw [eb, ee]
     refine ⟨o4, rows ++ [(w, ps[bg.toNat], ps[nl.toNat])], nl, .va (.str w), .va (.int wy), .va (.int bg), p4, ?_, ?_, fun r hr => ?_, by omega, n1⟩
     ·rw [List.map_append, hr, List.take_succ, q]; rfl
     ·rw [List.map_append]; rfl
     ·rcases List.mem_append.mp hr with h | h
      ·exact hb r h
      ·rw [List.mem_singleton.mp h]
       refine ⟨(pb _ (List.getElem_mem ib)).1, List.pairwise_iff_getElem.mp pw _ _ ib ie (by omega), (pb _ (List.getElem_mem ie)).2⟩
    refine w_seq (w_set (w_op (w_op (w_var rfl (w_con (q_add ?_))))))
    refine w_callR rfl (w_cons (w_ife (w_bl (w_op (w_op (w_var rfl (w_var rfl (q_sub ?_))))))))
    refine w_con (q_gt (q_ite (fun hg => ?_) fun hg => ?_))
    ·refine w_op (w_lst (w_cons (w_con (w_cons (w_con ?_)))))
     refine w_cons (w_op (w_var rfl (w_var rfl (q_sub ?_))))
     refine w_cons (w_op (w_var rfl (w_var rfl (q_sub (w_nil ⟨?_, ?_⟩)))))
     ·show 4 ≤ sizeLine; omega
     refine w_var rfl ?_
     obtain rfl | rfl | rfl | rfl : wy = 0 ∨ wy = 1 ∨ wy = 2 ∨ wy = 3 := by omega
     ·exact q_ix (x := .int 1) rfl (w_nil (fin 1 (by decide) (by decide)))
     ·exact q_ix (x := .int 2) rfl (w_nil (fin 2 (by decide) (by decide)))
     ·exact q_ix (x := .int (hh - bg)) rfl (w_nil (fin (hh - bg) (by omega) (by omega)))
     ·exact q_ix (x := .int (hh - bg)) rfl (w_nil (fin (hh - bg) (by omega) (by omega)))
    ·exact w_con (w_nil (fin 1 (by decide) (by decide)))
   refine w_seq (w_set (w_ife (w_and (w_bl (w_op (w_var rfl (w_con (q_eq ?_))))))))
   have els : ∀ Q : PV → EP' → Prop, (∀ (o3 : Ow) (bg : Int), Pool o3 → 0 ≤ bg → bg < hh → Q (.int bg) [.ow o3, .va (.lst (ws.map .str)), .va (.int hh), .va (.lst (ps.map .int)), .ow (.l (rows.map rowP)), .va (.int last), .va (.str w), .va (.int wy), c]) → tCallRP 0 (sp_law_draw K C) (tConsP (tVarP 2) (tNilP)) [.ow o2, .va (.lst (ws.map .str)), .va (.int hh), .va (.lst (ps.map .int)), .ow (.l (rows.map rowP)), .va (.int last), .va (.str w), .va (.int wy), c] Q := by
    intro Q k
    exact w_callR rfl (w_cons (w_var rfl (w_nil (q_callM rfl ⟨hh, p2, rfl, by omega, by omega, fun o3 d p3 d0 d1 => k o3 d p3 d0 d1⟩))))
   refine q_ite (fun hwy => ?_) fun hwy => ?_
   ·refine w_bl (w_op (w_var rfl (w_var rfl (q_lt ?_))))
    refine q_ite (fun hlt => ?_) fun hlt => ?_
    ·exact w_var rfl (rest o2 last p2 l0 hlt)
    ·exact els _ fun o3 bg p3 b0 b1 => rest o3 bg p3 b0 b1
   ·refine q_iteF ?_
    exact els _ fun o3 bg p3 b0 b1 => rest o3 bg p3 b0 b1
 ·rintro η ⟨o', rows, last, a, b, c, p', hr, rfl, hb, l0, l1⟩
  rw [List.length_map, List.take_length] at hr
  have hrl : rows.length = ws.length := by rw [← hr, List.length_map]
  dsimp only
  refine w_ret ?_
  refine w_cb (w_cons (w_cb (w_cons (w_varO (o := .l (rows.map rowP)) rfl ?_))))
  refine w_nil (q_sort (by rw [hr]; exact hw.2) (by omega) fun rs pm asc => ?_)
  refine w_nil ?_
  have hmem : ∀ r ∈ rs, r.1 ∈ ws := fun r h => by rw [← hr]; exact List.mem_map.mpr ⟨r, pm.mem_iff.mp h, rfl⟩
  refine ⟨o', rfl, hp o' rs p' ⟨by rw [pm.length_eq]; omega, fun r h => ?_, asc⟩ (by rw [pm.length_eq, hrl]) fun r h => ⟨hmem r h, (hb r (pm.mem_iff.mp h)).2.2⟩⟩
  exact ⟨hw.1 _ (hmem r h), (hb r (pm.mem_iff.mp h)).1, (hb r (pm.mem_iff.mp h)).2.1⟩
theorem w_fldS {s : Nat} {f : Str} {te : TEp} {D : EndsP} {η : EP'} (h : te η fun x η1 => match η1[s]? with
 | some (.ow (.o C' fs)) => C' = C ∧ fs.length < 1000 ∧ D.nx (η1.set s (.ow (.o C (putFP f x fs))))
 | _ => False) : tFldSP C s f te D η := h
theorem w_sortL {i j : Int} {te : TEp} {η : EP'} {Q : PV → EP' → Prop} (h : te η fun x η1 => match x with
 | .tup xs => (∀ y ∈ xs, ∃ ys a b, y = .tup ys ∧ atI ys i = some a ∧ atI ys j = some b ∧ flatD a = true ∧ flatD b = true) ∧ PySem.W.AllAlike (xs.map (keyP i j)) ∧ xs.length ≤ sizeLine ∧ Q (.lst (xs.mergeSort (PySem.W.dataLe false (keyP i j)))) η1
 | _ => False) : tSortLP i j te η Q := h
theorem pf1 {n : Int} : putFP ("seat_count" : Str) (.int n) [] = [(("seat_count" : Str), .int n)] := rfl
theorem pf2 {n : Int} {x : PV} : putFP ("rows" : Str) x [(("seat_count" : Str), .int n)] = [(("seat_count" : Str), .int n), (("rows" : Str), x)] := by
 unfold putFP
 rw [if_neg (by decide)]
 rfl
theorem pf3 {n : Int} {x y : PV} : putFP ("queue" : Str) y [(("seat_count" : Str), .int n), (("rows" : Str), x)] = [(("seat_count" : Str), .int n), (("rows" : Str), x), (("queue" : Str), y)] := by
 unfold putFP
 rw [if_neg (by decide)]
 unfold putFP
 rw [if_neg (by decide)]
 rfl
end
def Near (rs : List Trip) : Prop := ∀ r ∈ rs, r.2.2 < 10 ^ 60
section
variable {K : PySem.W.Frag} {C : Addr} {args : List PV} {P : PV → Prop} {PR : PV → Ow → Prop} {o : Ow}
theorem rw_good {rs : List Trip} (h : Rw rs) : ∀ r ∈ rs, GoodR r := fun r hr => by
 obtain ⟨h1, h2, h3⟩ := h.each r hr
 refine ⟨fun c hc => ?_, h2, by omega⟩
 have e : (decide (1 ≤ r.1.length) && (decide (r.1.length ≤ 8) && r.1.cps.toList.all fun c => decide (c ∈ abc.cps.toList))) = true := h1
 have m := List.all_eq_true.mp (Bool.and_eq_true_iff.mp (Bool.and_eq_true_iff.mp e).2).2 c hc
 have m2 : c ∈ abc.cps.toList := of_decide_eq_true m
 have all : ∀ d ∈ abc.cps.toList, 97 ≤ d ∧ d ≤ 122 := by decide +kernel
 exact all c m2
theorem toD_row (r : Trip) : toD (rowP r) = some (rowE r) := by
 unfold rowP rowE
 simp only [toD, toDs, Option.map]
theorem toDs_rowsE : ∀ rs : List Trip, toDs (rs.map rowP) = some (rs.map rowE)
 | [] => by simp only [List.map_nil, toDs]
 | r :: rs => by
  rw [List.map_cons, List.map_cons, toDs, toD_row, toDs_rowsE rs]
theorem toD_rows (rs : List Trip) : toD (rowsP rs) = some (.tuple (rs.map rowE)) := by
 unfold rowsP
 rw [toD, toDs_rowsE]
 rfl
theorem canLay_row {r : Trip} (h : GoodR r) : PyData.canLay0 (rowE r) = true := by
 unfold rowE
 simp only [PyData.canLay0, PyData.canLayAll0, Bool.and_true]
 unfold PyData.strOk
 rw [← Array.all_toList]
 exact List.all_eq_true.mpr fun c hc => by
  have := h.low c hc
  exact decide_eq_true (by omega)
theorem canLay_rows : ∀ {rs : List Trip}, (∀ r ∈ rs, GoodR r) → PyData.canLayAll0 (rs.map rowE) = true
 | [], _ => rfl
 | r :: rs, h => by
  rw [List.map_cons, PyData.canLayAll0, canLay_row (h r List.mem_cons_self), canLay_rows fun q hq => h q (List.mem_cons_of_mem _ hq)]
  rfl
theorem depth_rows : ∀ rs : List Trip, PyData.depthAll (rs.map rowE) ≤ 1
 | [] => by simp [PyData.depthAll]
 | r :: rs => by
  have e : PyData.depth (rowE r) = 1 := by
   unfold rowE
   simp [PyData.depth, PyData.depthAll]
  have := depth_rows rs
  rw [List.map_cons, PyData.depthAll, e]
  omega
theorem shaped_rows {rs : List Trip} (h : ∀ r ∈ rs, GoodR r) : SeqAt.shaped (.tuple (rs.map rowE)) = true := by
 unfold SeqAt.shaped
 have := depth_rows rs
 rw [PyData.canLay0, canLay_rows h, Bool.true_and]
 refine decide_eq_true ?_
 rw [PyData.depth]
 omega
theorem eqv_row (r u : Trip) : PyData.eqv (rowE r) (rowE u) = decide (r = u) := by
 obtain ⟨x, s, t⟩ := r
 obtain ⟨x', s', t'⟩ := u
 unfold rowE
 simp only [PyData.eqv, PyData.eqvAll, Bool.and_true]
 rw [Bool.eq_iff_iff]
 simp
theorem eqv_rows : ∀ rs us : List Trip, PyData.eqvAll (rs.map rowE) (us.map rowE) = decide (rs = us)
 | [], [] => rfl
 | [], _ :: _ => rfl
 | _ :: _, [] => rfl
 | r :: rs, u :: us => by
  rw [List.map_cons, List.map_cons, PyData.eqvAll, eqv_row, eqv_rows rs us, Bool.eq_iff_iff]
  simp
theorem q_eqRows {rs us : List Trip} (hr : ∀ r ∈ rs, GoodR r) (hu : ∀ r ∈ us, GoodR r) (h : P (.bl (decide (rs = us)))) : rEqP false (rowsP rs) (rowsP us) P :=
 ⟨_, _, toD_rows rs, toD_rows us, shaped_rows hr, shaped_rows hu, by rw [if_neg (by simp), show PyData.eqv (.tuple (rs.map rowE)) (.tuple (us.map rowE)) = PyData.eqvAll (rs.map rowE) (us.map rowE) by simp only [PyData.eqv], eqv_rows]; exact h⟩
theorem log_of {i : Int} (h0 : 0 ≤ i) (h : i < 10 ^ 70) : i.natAbs.log2 < 1920 := by
 obtain ⟨n, rfl⟩ := Int.eq_ofNat_of_zero_le h0
 have h2 : n < 10 ^ 70 := by omega
 show n.log2 < 1920
 by_cases hn : n = 0
 ·subst hn; decide
 ·exact (Nat.log2_lt hn).mpr (Nat.lt_of_lt_of_le h2 (by decide +kernel))
structure ShowR (r : Trip) : Prop where
 g : GoodR r
 l : r.1.length ≤ 8
 s : r.2.1 < 10 ^ 70
 e : r.2.2 < 10 ^ 70
theorem rw_show {rs : List Trip} (h : Rw rs) (hn : Near rs) : ∀ r ∈ rs, ShowR r := fun r hr => by
 obtain ⟨h1, h2, h3⟩ := h.each r hr
 have h4 := hn r hr
 have e : (decide (1 ≤ r.1.length) && (decide (r.1.length ≤ 8) && r.1.cps.toList.all fun c => decide (c ∈ abc.cps.toList))) = true := h1
 exact ⟨rw_good h r hr, of_decide_eq_true (Bool.and_eq_true_iff.mp (Bool.and_eq_true_iff.mp e).2).1, by omega, by omega⟩
theorem leaves_int {i : Int} (h0 : 0 ≤ i) (h : i < 10 ^ 70) : PyData.leavesShort 1921 (.int i) = true := by
 rw [PyData.leavesShort]
 exact decide_eq_true (by rw [PyData.shown_int]; exact int_text_len_1921 (log_of h0 h))
theorem row_facts {r : Trip} (h : ShowR r) : PyData.leavesShort 1921 (rowE r) = true ∧ PyData.showable (rowE r) = true ∧ PyData.hasDict (rowE r) = false ∧ PyData.bulk (rowE r) ≤ 11 := by
 obtain ⟨g, l, s, e⟩ := h
 have s0 := g.s0
 have e0 := g.e0
 unfold rowE
 refine ⟨?_, ?_, by simp [PyData.hasDict, PyData.hasDictAll], ?_⟩
 ·rw [PyData.leavesShort, PyData.leavesShortAll, PyData.leavesShortAll, PyData.leavesShortAll, leaves_int s0 s, leaves_int e0 e, PyData.leavesShortAll, PyData.leavesShort]
  simp only [Bool.and_true]
  exact List.all_eq_true.mpr fun c hc => decide_eq_true (by have := g.low c hc; omega)
 ·simp only [PyData.showable, PyData.showableAll, Bool.true_and, Bool.and_true, Bool.and_eq_true, decide_eq_true_eq]
  exact ⟨log_of s0 s, log_of e0 e⟩
 ·have l2 : r.1.cps.size ≤ 8 := l
  simp only [PyData.bulk, PyData.bulkAll]
  omega
theorem rows_facts : ∀ {rs : List Trip}, (∀ r ∈ rs, ShowR r) → PyData.leavesShortAll 1921 (rs.map rowE) = true ∧ PyData.showableAll (rs.map rowE) = true ∧ PyData.hasDictAll (rs.map rowE) = false ∧ PyData.bulkAll (rs.map rowE) ≤ 12 * rs.length
 | [], _ => ⟨rfl, rfl, rfl, by simp [PyData.bulkAll]⟩
 | r :: rs, h => by
  obtain ⟨a1, a2, a3, a4⟩ := row_facts (h r List.mem_cons_self)
  obtain ⟨b1, b2, b3, b4⟩ := rows_facts fun q hq => h q (List.mem_cons_of_mem _ hq)
  rw [List.map_cons, PyData.leavesShortAll, PyData.showableAll, PyData.hasDictAll, PyData.bulkAll, a1, a2, a3, b1, b2, b3, List.length_cons]
  exact ⟨rfl, rfl, rfl, by omega⟩
theorem w_fld {f : Str} {te : TEp} {η : EP'} {Q : PV → EP' → Prop} (h : te η fun x η1 => match x with
 | .ins C' fs => C' = C ∧ ∃ y, fs.lookup f = some y ∧ Q y η1
 | _ => False) : tFldP C f te η Q := h
theorem w_andV {ta tb : TEp} {η : EP'} {Q : PV → EP' → Prop} (h : ta η fun x η1 => match x with | .bl true => tb η1 Q | .bl false => Q (.bl false) η1 | _ => False) : tAndVP ta tb η Q := h
theorem w_itup {te : TEp} {η : EP'} {Q : List PV → EP' → Prop} (h : te η fun x η1 => match x with
 | .tup xs => Q xs η1
 | _ => False) : iTupP te η Q := h
theorem w_star {te : TEp} {t : TAp} {η : EP'} {Q : List PV → EP' → Prop} (h : te η fun x η1 => match x with
 | .lst xs => t η1 fun ys η2 => Q (xs ++ ys) η2
 | .tup xs => t η1 fun ys η2 => Q (xs ++ ys) η2
 | _ => False) : tStarP te t η Q := h
theorem w_fmt {te : TEp} {η : EP'} {Q : PV → EP' → Prop} (h : te η fun x η1 => match x with
 | .str y => y.length ≤ sizeLine ∧ Q (.str y) η1
 | .int i => i.natAbs.log2 < 1920 ∧ Q (.str (toString i)) η1
 | _ => False) : tFmtP te η Q := h
theorem w_js {ts : List TEp} {η : EP'} {Q : PV → EP' → Prop} (h : tJsP ts Str.empty η fun out η' => Q (.str out) η') : tJoinedP ts η Q := h
theorem w_js0 {acc : Str} {η : EP'} {Q : Str → EP' → Prop} (h : Q acc η) : tJsP [] acc η Q := h
theorem w_js1 {t : TEp} {ts : List TEp} {acc : Str} {η : EP'} {Q : Str → EP' → Prop} (h : t η fun x η1 => ∃ y : Str, x = .str y ∧ (acc ++ y).length ≤ sizeLine ∧ tJsP ts (acc ++ y) η1 Q) : tJsP (t :: ts) acc η Q := h
theorem w_eqO {sp : SpP} {neg : Bool} {ta tb : TEp} {η : EP'} {Q : PV → EP' → Prop} (h : ta η fun x η1 => tb η1 fun y η2 => (∃ fs, x = .ins C fs) ∧ EqTy K C y ∧ sp [x, y] fun z => ∃ b, z = .bl b ∧ Q (.bl (b != neg)) η2) : tEqOP K C sp neg ta tb η Q := h
theorem w_lenO {sp : SpP} {t : TAp} {η : EP'} {Q : PV → EP' → Prop} (h : t η fun xs η1 => ∃ fs, xs = [.ins C fs] ∧ sp [.ins C fs] fun z => ∃ n : Int, z = .int n ∧ (0 ≤ n ∧ n < 2 ^ 63) ∧ Q (.int n) η1) : tLenOP C sp t η Q := h
theorem w_boolO {sp : SpP} {t : TAp} {η : EP'} {Q : PV → EP' → Prop} (h : t η fun xs η1 => ∃ fs, xs = [.ins C fs] ∧ sp [.ins C fs] fun z => ∃ n : Int, z = .int n ∧ (0 ≤ n ∧ n < 2 ^ 63) ∧ Q (.bl (n != 0)) η1) : tBoolOP C sp t η Q := h
theorem w_strO {sp : SpP} {t : TAp} {η : EP'} {Q : PV → EP' → Prop} (h : t η fun xs η1 => ∃ fs, xs = [.ins C fs] ∧ sp [.ins C fs] fun z => (∃ y, z = .str y) ∧ Q z η1) : tStrOP C sp t η Q := h
theorem w_prop' {sp : SpP} {ta : TEp} {η : EP'} {Q : PV → EP' → Prop} (h : ta η fun x η1 => (∃ fs, x = .ins C fs) ∧ sp [x] fun z => Q z η1) : tPropP C sp ta η Q := h
theorem q_neN {a b : Int} (h : P (.bl (!decide (a = b)))) : rEqI true (.int a) (.int b) P := h
theorem q_isC {y : PV} {Q : PV → Prop} (hC : ClsT K C) (ht : (tyN y).isSome = true) (h : Q (.bl false)) : rIsI K [y, .raw (.ref C)] Q := by
 cases y with
 | ins => cases ht
 | raw => cases ht
 | pln => cases ht
 | exn => cases ht
 | _ => exact ⟨hC, by decide, h⟩
theorem len_app (a b : Str) : (a ++ b).length = a.length + b.length := Str.length_append a b
theorem strsOf_mapS : ∀ ys : List Str, strsOf (ys.map .str) = some ys
 | [] => rfl
 | y :: ys => by rw [List.map_cons, strsOf, strsOf_mapS ys]; rfl
theorem sum_le : ∀ {ys : List Str}, (∀ y ∈ ys, y.length ≤ 4000) → (ys.map (·.length)).sum ≤ 4000 * ys.length
 | [], _ => by simp
 | y :: ys, h => by
  have := h y List.mem_cons_self
  have := sum_le (ys := ys) fun z hz => h z (List.mem_cons_of_mem _ hz)
  rw [List.map_cons, List.sum_cons, List.length_cons]
  omega
theorem w_g3 {a b c : PV} {i j k : Nat} {η : EP'} {R : EP' → Prop} (h : R (((η.set i (.va a)).set j (.va b)).set k (.va c))) : gConsP (gNameP i) (gConsP (gNameP j) (gConsP (gNameP k) (gNilP))) [a, b, c] η R := ⟨rfl, h⟩
theorem eqTy_line {n : Int} {rs : List Trip} : EqTy K C (lineP C n rs) := .inr ⟨_, rfl⟩
theorem q_addLL {xs ys : List PV} {Q : PV → Prop} (l : xs.length + ys.length ≤ sizeLine) (h : Q (.lst (xs ++ ys))) : rAdd (.lst xs) (.lst ys) Q := ⟨l, h⟩
theorem w_callRF' {tf : TFp} {sr : SpR} {t : TAp} {η : EP'} {Q : PV → EP' → Prop} (h : tf η fun xs η1 => t η1 fun args η2 => sr (.l xs) args fun z _ => Q z η2) : tCallRFP tf sr t η Q := h
theorem w_callF' {sp : SpF} {t : TAp} {η : EP'} {Q : List PV → EP' → Prop} (h : t η fun args η1 => sp args fun xs => Q xs η1) : tCallFP sp t η Q := h
theorem q_tupl {xs : List PV} {Q : PV → Prop} (h : Q (.tup xs)) : rTuple [.lst xs] Q := h
end
def passes (st : Int) (r : Trip) : Bool := decide (r.2.1 ≤ st) && decide (st < r.2.2)
def loadN (rs : List Trip) (st : Int) : Int := ((rs.filter (passes st)).length : Int)
def qLe (a b : Trip) : Bool := PySem.W.dataLe false (keyP 1 0) (rowP a) (rowP b)
def queueT (rs : List Trip) : List Trip := rs.mergeSort qLe
theorem queue_eq (rs : List Trip) : queueP rs = .tup ((queueT rs).map rowP) := by
 unfold queueP queueT
 have e := List.map_mergeSort (r := qLe) (s := PySem.W.dataLe false (keyP 1 0)) (f := rowP) (l := rs) fun a _ b _ => rfl
 rw [e]
theorem queue_perm (rs : List Trip) : (queueT rs).Perm rs := List.mergeSort_perm _ _
theorem queue_len (rs : List Trip) : (queueT rs).length = rs.length := (queue_perm rs).length_eq
def rowS (r : Trip) : Str := Str.empty ++ r.1 ++ ((":" : String) : Str) ++ ((toString r.2.1 : String) : Str) ++ (("-" : String) : Str) ++ ((toString r.2.2 : String) : Str)
def textS (n : Int) (rs : List Trip) : Str := Txt.join ((" " : String) : Str) (((toString n : String) : Str) :: rs.map rowS)
def reprS (n : Int) (rs : List Trip) : Str := Str.empty ++ (("Line('" : String) : Str) ++ textS n rs ++ (("')" : String) : Str)
def peakI (rs : List Trip) : Int := maxI 0 (rs.map fun r => loadN rs r.2.1)
def showsD (n : Int) (rs : List Trip) : PyData := .list ([.int n, .tuple (rs.map rowE), .tuple ((queueT rs).map fun r => .str r.1), .int (peakI rs), .int (rs.length : Int), .bool ((rs.length : Int) != 0), .str (textS n rs), .str (reprS n rs)] ++ [.list ((queueT rs).map rowE), .int (loadN rs 0), .int (loadN rs 7)])
def showsV (n : Int) (rs : List Trip) : List PV := [.int n, rowsP rs, .tup ((queueT rs).map fun r => .str r.1), .int (peakI rs), .int (rs.length : Int), .bl ((rs.length : Int) != 0), .str (textS n rs), .str (reprS n rs)]
def showsW (rs : List Trip) : List PV := [.lst ((queueT rs).map rowP), .int (loadN rs 0), .int (loadN rs 7)]
theorem int_short {i : Int} (h0 : 0 ≤ i) (h : i < 10 ^ 60) : ((toString i : String) : Str).length ≤ 61 := by
 have e := int_text_length_le10 (a := i) (k := 60) (by decide) (by
  obtain ⟨n, rfl⟩ := Int.eq_ofNat_of_zero_le h0
  have : n < 10 ^ 60 := by omega
  exact this)
 rw [PySem.ofString_length]
 exact e
structure Short (r : Trip) : Prop where
 g : GoodR r
 l : r.1.length ≤ 8
 s : r.2.1 < 10 ^ 60
 e : r.2.2 < 10 ^ 60
theorem rw_short {rs : List Trip} (h : Rw rs) (hn : Near rs) : ∀ r ∈ rs, Short r := fun r hr => by
 obtain ⟨g, l, _, _⟩ := rw_show h hn r hr
 obtain ⟨h1, h2, h3⟩ := h.each r hr
 have h4 := hn r hr
 exact ⟨g, l, by omega, h4⟩
theorem rowS_len {r : Trip} (h : Short r) : (rowS r).length ≤ 132 := by
 have b1 := int_short h.g.s0 h.s
 have b2 := int_short h.g.e0 h.e
 have l := h.l
 have c1 : ((":" : String) : Str).length = 1 := rfl
 have c2 : (("-" : String) : Str).length = 1 := rfl
 have c0 : (Str.empty).length = 0 := rfl
 unfold rowS
 rw [len_app, len_app, len_app, len_app, len_app]
 omega
theorem joined_len {m k : Nat} {sep : Str} (hs : sep.length = k) : ∀ {l : List Str}, (∀ x ∈ l, x.length ≤ m) → (Str.join sep l).length ≤ (m + k) * l.length
 | [], _ => by show 0 ≤ _; omega
 | [x], h => by
  have := h x List.mem_cons_self
  show x.length ≤ (m + k) * 1
  omega
 | x :: y :: r, h => by
  have h1 := h x List.mem_cons_self
  have h2 := joined_len hs (l := y :: r) fun a ha => h a (List.mem_cons_of_mem _ ha)
  show (x ++ sep ++ Str.join sep (y :: r)).length ≤ _
  rw [len_app, len_app, List.length_cons, Nat.mul_add]
  omega
theorem textS_len {n : Int} {rs : List Trip} (h0 : 0 ≤ n) (h1 : n ≤ 20) (h : ∀ r ∈ rs, Short r) (hl : rs.length ≤ 24) : (textS n rs).length ≤ 3325 := by
 have h20 : (20 : Int) < 10 ^ 60 := by decide
 have b0 := int_short (i := n) h0 (by omega)
 have hs : ((" " : String) : Str).length = 1 := rfl
 have e : textS n rs = Str.join ((" " : String) : Str) (((toString n : String) : Str) :: rs.map rowS) := by
  unfold textS
  show Builtin.Str.glued _ _ = _
  rw [StrLaws.glued_eq_join]
 rw [e]
 have := joined_len (m := 132) hs (l := ((toString n : String) : Str) :: rs.map rowS) fun x hx => by
  rcases List.mem_cons.mp hx with rfl | hx
  ·omega
  ·obtain ⟨r, hr, rfl⟩ := List.mem_map.mp hx
   exact rowS_len (h r hr)
 rw [List.length_cons, List.length_map] at this
 omega
theorem reprS_len {n : Int} {rs : List Trip} (h0 : 0 ≤ n) (h1 : n ≤ 20) (h : ∀ r ∈ rs, Short r) (hl : rs.length ≤ 24) : (reprS n rs).length ≤ 3333 := by
 have := textS_len h0 h1 h hl
 have c1 : (("Line('" : String) : Str).length = 6 := rfl
 have c2 : (("')" : String) : Str).length = 2 := rfl
 have c0 : (Str.empty).length = 0 := rfl
 unfold reprS
 rw [len_app, len_app, len_app]
 omega
def Small (z : Str) : Prop := ∀ c ∈ z.cps.toList, c < 16 ^ 8
theorem small_app {a b : Str} (ha : Small a) (hb : Small b) : Small (a ++ b) := by
 intro c hc
 rw [PySem.Str.cps_append, Array.toList_append, List.mem_append] at hc
 rcases hc with hc | hc
 ·exact ha c hc
 ·exact hb c hc
theorem small_of (s : String) : Small (s : Str) := by
 intro c hc
 have e : (s : Str) = ⟨(s.toList.map Char.toNat).toArray⟩ := Str.ofString_eq_toList s
 rw [e] at hc
 simp only at hc
 obtain ⟨d, _, rfl⟩ := List.mem_map.mp hc
 have h1 : (1114112 : Nat) < 16 ^ 8 := by decide
 have h2 : d.toNat < 1114112 := by
  rcases d.valid with h | h
  ·have : d.val.toNat < 0xd800 := h
   show d.val.toNat < _
   omega
  ·exact h.2
 omega
theorem small_empty : Small Str.empty := by
 intro c hc
 simp [PySem.Str.empty] at hc
theorem small_join {sep : Str} (hs : Small sep) : ∀ l : List Str, (∀ a ∈ l, Small a) → Small (Str.join sep l)
 | [], _ => small_empty
 | [x], h => h x (List.mem_cons_self ..)
 | x :: y :: r, h => by
  show Small (x ++ sep ++ Str.join sep (y :: r))
  exact small_app (small_app (h x (List.mem_cons_self ..)) hs) (small_join hs (y :: r) fun a ha => h a (List.mem_cons_of_mem _ ha))
theorem small_name {r : Trip} (g : GoodR r) : Small r.1 := fun c hc => by
 have := g.low c hc
 have h1 : (122 : Nat) < 16 ^ 8 := by decide
 omega
theorem small_text {n : Int} {rs : List Trip} (h : ∀ r ∈ rs, Short r) : Small (textS n rs) := by
 have e : textS n rs = Str.join ((" " : String) : Str) (((toString n : String) : Str) :: rs.map rowS) := by
  unfold textS
  show Builtin.Str.glued _ _ = _
  rw [StrLaws.glued_eq_join]
 rw [e]
 refine small_join (small_of _) _ fun x hx => ?_
 rcases List.mem_cons.mp hx with rfl | hx
 ·exact small_of _
 ·obtain ⟨r, hr, rfl⟩ := List.mem_map.mp hx
  exact small_app (small_app (small_app (small_app (small_app small_empty (small_name (h r hr).g)) (small_of _)) (small_of _)) (small_of _)) (small_of _)
theorem small_repr {n : Int} {rs : List Trip} (h : ∀ r ∈ rs, Short r) : Small (reprS n rs) := small_app (small_app (small_app small_empty (small_of _)) (small_text h)) (small_of _)
theorem leavesS {B : Nat} {z : Str} (h : Small z) : PyData.leavesShort B (.str z) = true := by
 rw [PyData.leavesShort]
 exact List.all_eq_true.mpr fun c hc => decide_eq_true (h c hc)
theorem leavesI {i : Int} (h0 : 0 ≤ i) (h : i < 10 ^ 60) : PyData.leavesShort 61 (.int i) = true := by
 rw [PyData.leavesShort]
 exact decide_eq_true (by rw [PyData.shown_int]; exact int_short h0 h)
theorem log_of60 {i : Int} (h0 : 0 ≤ i) (h : i < 10 ^ 60) : i.natAbs.log2 < 1920 := by
 have h2 : (10 : Int) ^ 60 ≤ 10 ^ 70 := by decide
 exact log_of h0 (by omega)
theorem row_facts61 {r : Trip} (h : Short r) : PyData.leavesShort 61 (rowE r) = true := by
 unfold rowE
 rw [PyData.leavesShort, PyData.leavesShortAll, PyData.leavesShortAll, PyData.leavesShortAll, leavesI h.g.s0 h.s, leavesI h.g.e0 h.e, leavesS (small_name h.g), PyData.leavesShortAll]
 rfl
theorem rows_facts61 : ∀ {rs : List Trip}, (∀ r ∈ rs, Short r) → PyData.leavesShortAll 61 (rs.map rowE) = true
 | [], _ => rfl
 | r :: rs, h => by
  rw [List.map_cons, PyData.leavesShortAll, row_facts61 (h r List.mem_cons_self), rows_facts61 fun q hq => h q (List.mem_cons_of_mem _ hq)]
  rfl
theorem names_facts : ∀ {rs : List Trip}, (∀ r ∈ rs, Short r) → PyData.leavesShortAll 61 (rs.map fun r => .str r.1) = true ∧ PyData.showableAll (rs.map fun r => .str r.1) = true ∧ PyData.hasDictAll (rs.map fun r => .str r.1) = false ∧ PyData.bulkAll (rs.map fun r => .str r.1) ≤ 9 * rs.length ∧ PyData.depthAll (rs.map fun r => .str r.1) = 0
 | [], _ => ⟨rfl, rfl, rfl, by simp [PyData.bulkAll], by simp [PyData.depthAll]⟩
 | r :: rs, h => by
  obtain ⟨b1, b2, b3, b4, b5⟩ := names_facts fun q hq => h q (List.mem_cons_of_mem _ hq)
  have l : r.1.cps.size ≤ 8 := (h r List.mem_cons_self).l
  rw [List.map_cons, PyData.leavesShortAll, PyData.showableAll, PyData.hasDictAll, PyData.bulkAll, PyData.depthAll, leavesS (small_name (h r List.mem_cons_self).g), b1, b2, b3, b5, List.length_cons]
  refine ⟨rfl, ?_, ?_, ?_, ?_⟩
  ·simp [PyData.showable]
  ·simp [PyData.hasDict]
  ·rw [PyData.bulk]; omega
  ·simp [PyData.depth]
theorem names_toDs : ∀ rs : List Trip, toDs (rs.map fun r => .str r.1) = some (rs.map fun r => .str r.1)
 | [] => by simp only [List.map_nil, toDs]
 | r :: rs => by rw [List.map_cons, List.map_cons, toDs, toD, names_toDs rs]
theorem loadN_le (rs : List Trip) (st : Int) : 0 ≤ loadN rs st ∧ loadN rs st ≤ rs.length := by
 have := List.length_filter_le (passes st) rs
 unfold loadN
 omega
theorem max_le {m : Int} : ∀ {ns : List Int} {n : Int}, (0 ≤ n ∧ n ≤ m) → (∀ x ∈ ns, 0 ≤ x ∧ x ≤ m) → 0 ≤ PySem.W.maxOf n ns ∧ PySem.W.maxOf n ns ≤ m
 | [], n, h, _ => h
 | y :: ns, n, h, g => by
  have hy := g y List.mem_cons_self
  show 0 ≤ PySem.W.maxOf (if PySem.W.DatumOrd.lt n y = true then y else n) ns ∧ _
  have := max_le (ns := ns) (n := if PySem.W.DatumOrd.lt n y = true then y else n) (m := m) (by split <;> assumption) fun x hx => g x (List.mem_cons_of_mem _ hx)
  exact this
theorem peak_le (rs : List Trip) : 0 ≤ peakI rs ∧ peakI rs ≤ rs.length := by
 unfold peakI
 cases rs with
 | nil => exact ⟨Int.le_refl 0, Int.le_refl 0⟩
 | cons r rs =>
  refine max_le (loadN_le _ _) fun x hx => ?_
  obtain ⟨q, _, rfl⟩ := List.mem_map.mp hx
  exact loadN_le _ _
theorem q_reprShows {n : Int} {rs : List Trip} {P : PV → Prop} (h0 : 0 ≤ n) (h1 : n ≤ 20) (h : ∀ r ∈ rs, Short r) (hs : ∀ r ∈ rs, ShowR r) (hl : rs.length ≤ 24) (hp : P (.str (showsD n rs).shown)) : rRepr [.lst (showsV n rs ++ showsW rs)] P := by
 have hq : ∀ r ∈ queueT rs, Short r := fun r hr => h r ((queue_perm rs).mem_iff.mp hr)
 have hqs : ∀ r ∈ queueT rs, ShowR r := fun r hr => hs r ((queue_perm rs).mem_iff.mp hr)
 have ql := queue_len rs
 obtain ⟨a1, a2, a3, a4⟩ := rows_facts hs
 obtain ⟨b1, b2, b3, b4⟩ := rows_facts hqs
 obtain ⟨c1, c2, c3, c4, c5⟩ := names_facts hq
 have a5 := rows_facts61 h
 have b5 := rows_facts61 hq
 have d1 := depth_rows rs
 have d2 := depth_rows (queueT rs)
 have pk := peak_le rs
 have l0 := loadN_le rs 0
 have l7 := loadN_le rs 7
 have h24 : (24 : Int) < 10 ^ 60 := by decide
 have tl := textS_len h0 h1 h hl
 have rl := reprS_len h0 h1 h hl
 have tl' : (textS n rs).cps.size ≤ 3325 := tl
 have rl' : (reprS n rs).cps.size ≤ 3333 := rl
 have lv : PyData.leavesShort 61 (showsD n rs) = true := by
  unfold showsD
  simp only [List.cons_append, List.nil_append, PyData.leavesShort, PyData.leavesShortAll]
  have i1 := leavesI (i := n) h0 (by omega)
  have i2 := leavesI pk.1 (by omega)
  have i3 := leavesI (i := (rs.length : Int)) (by omega) (by omega)
  have i4 := leavesI l0.1 (by omega)
  have i5 := leavesI l7.1 (by omega)
  have s1 := leavesS (B := 61) (small_text (n := n) h)
  have s2 := leavesS (B := 61) (small_repr (n := n) h)
  simp only [PyData.leavesShort] at i1 i2 i3 i4 i5 s1 s2
  rw [i1, i2, i3, i4, i5, s1, s2, a5, b5, c1]
  rfl
 refine ⟨showsD n rs, ?_, ?_, ?_, ?_, ?_, hp⟩
 ·unfold showsV showsW showsD
  simp only [List.cons_append, List.nil_append, toD, toDs, toD_rows, toDs_rowsE, names_toDs]
  rfl
 ·unfold showsD
  simp only [List.cons_append, List.nil_append, PyData.showable, PyData.showableAll, a2, b2, c2, Bool.true_and, Bool.and_true, Bool.and_eq_true, decide_eq_true_eq]
  exact ⟨log_of60 h0 (by omega), log_of60 pk.1 (by omega), log_of60 (i := (rs.length : Int)) (by omega) (by omega), log_of60 l0.1 (by omega), log_of60 l7.1 (by omega)⟩
 ·unfold showsD
  simp only [List.cons_append, List.nil_append, PyData.hasDict, PyData.hasDictAll, a3, b3, c3]
  rfl
 ·unfold showsD
  simp only [List.cons_append, List.nil_append, PyData.depth, PyData.depthAll, c5]
  omega
 ·have e1 := PyData.shown_le_bulk 61 (by decide) _ lv
  have e2 : (showsD n rs).bulk ≤ 8000 := by
   unfold showsD
   simp only [List.cons_append, List.nil_append, PyData.bulk, PyData.bulkAll]
   omega
  have e3 : 63 * (showsD n rs).bulk ≤ 63 * 8000 := Nat.mul_le_mul_left _ e2
  have e4 : 63 * 8000 + 61 ≤ sizeLine := by decide
  omega
def sp_Line_capacity : PrP := fun K C args P => ∃ n rs, args = [lineP C n rs] ∧ P (.int n)
def sp_Line_len : PrP := fun K C args P => ∃ n rs, args = [lineP C n rs] ∧ P (.int (rs.length : Int))
def sp_Line_eq : PrP := fun K C args P => ∃ n rs y, args = [lineP C n rs, y] ∧ ClsT K C ∧ (∀ r ∈ rs, GoodR r) ∧ (((tyN y).isSome = true ∧ P (.bl false)) ∨ ∃ m us, y = lineP C m us ∧ (∀ r ∈ us, GoodR r) ∧ P (.bl (decide (n = m ∧ rs = us))))
def sp_load_of : PrP := fun K C args P => ∃ rs st, args = [rowsP rs, .int st] ∧ rs.length ≤ 24 ∧ P (.int (loadN rs st))
def sp_Line_load : PrP := fun K C args P => ∃ n rs st, args = [lineP C n rs, .int st] ∧ 0 ≤ st ∧ rs.length ≤ 24 ∧ P (.int (loadN rs st))
def sp_Line_order : PrP := fun K C args P => ∃ n rs, args = [lineP C n rs] ∧ rs.length ≤ 24 ∧ P (.tup ((queueT rs).map fun r => .str r.1))
def sp_Line_peak : PrP := fun K C args P => ∃ n rs, args = [lineP C n rs] ∧ rs.length ≤ 24 ∧ P (.int (peakI rs))
def ts_Line_capacity (K : PySem.W.Frag) (CLine : Addr) : TSp := tRetP (tFldP CLine ("seat_count" : Str) (tVarP 0))
def ts_Line_len (K : PySem.W.Frag) (CLine : Addr) : TSp := tRetP (tCBP rLen (tConsP (tFldP CLine ("rows" : Str) (tVarP 0)) (tNilP)))
def ts_Line_eq (K : PySem.W.Frag) (CLine : Addr) : TSp := tRetP (tAndVP (tCBP (rIsI K) (tConsP (tVarP 1) (tConsP (tConP (.raw (.ref CLine))) (tNilP)))) (tAndVP (tOpP (rEqP false) (tFldP CLine ("seat_count" : Str) (tVarP 0)) (tFldP CLine ("seat_count" : Str) (tVarP 1))) (tOpP (rEqP false) (tFldP CLine ("rows" : Str) (tVarP 0)) (tFldP CLine ("rows" : Str) (tVarP 1)))))
def ts_load_of (K : PySem.W.Frag) (CLine : Addr) : TSp := tRetP (tCBP rLen (tConsP (tValP (tLcP (iTupP (tVarP 0)) (gTupP 3 (gConsP (gNameP 2) (gConsP (gNameP 3) (gConsP (gNameP 4) (gNilP))))) (tBlP (tChainP rLe rLt (tVarP 3) (tVarP 1) (tVarP 4))) (tVarP 2) [2, 3, 4])) (tNilP)))
def ts_Line_load (K : PySem.W.Frag) (CLine : Addr) : TSp := tSeqP (tIfSP (tNotP (tBlP (tCallP (sp_is_station K CLine) [] (tConsP (tVarP 1) (tNilP))))) (tNevP) (tNextP)) (tRetP (tCallP (sp_load_of K CLine) [] (tConsP (tFldP CLine ("rows" : Str) (tVarP 0)) (tConsP (tVarP 1) (tNilP)))))
def ts_Line_order (K : PySem.W.Frag) (CLine : Addr) : TSp := tRetP (tCBP rTuple (tConsP (tValP (tLcP (iTupP (tFldP CLine ("queue" : Str) (tVarP 0))) (gNameP 1) (tYesP) (tOpP rIxP (tVarP 1) (tConP (.int 0))) [1])) (tNilP)))
def ts_Line_peak (K : PySem.W.Frag) (CLine : Addr) : TSp := tRetP (tMaxDP (tConsP (tValP (tLcP (iTupP (tFldP CLine ("rows" : Str) (tVarP 0))) (gNameP 1) (tYesP) (tCallP (sp_load_of K CLine) [] (tConsP (tFldP CLine ("rows" : Str) (tVarP 0)) (tConsP (tOpP rIxP (tVarP 1) (tConP (.int 1))) (tNilP)))) [1])) (tNilP)) (tConsP (tConP (.int 0)) (tNilP)))
section
variable {K : PySem.W.Frag} {C : Addr} {args : List PV} {P : PV → Prop} {PR : PV → Ow → Prop} {o : Ow}
theorem len_Line_capacity (h : sp_Line_capacity K C args P) : args.length = 1 := by
 obtain ⟨_, _, rfl, _⟩ := h; rfl
theorem len_Line_len (h : sp_Line_len K C args P) : args.length = 1 := by
 obtain ⟨_, _, rfl, _⟩ := h; rfl
theorem len_Line_eq (h : sp_Line_eq K C args P) : args.length = 2 := by
 obtain ⟨_, _, _, rfl, _⟩ := h; rfl
theorem len_load_of (h : sp_load_of K C args P) : args.length = 2 := by
 obtain ⟨_, _, rfl, _⟩ := h; rfl
theorem len_Line_load (h : sp_Line_load K C args P) : args.length = 2 := by
 obtain ⟨_, _, _, rfl, _⟩ := h; rfl
theorem len_Line_order (h : sp_Line_order K C args P) : args.length = 1 := by
 obtain ⟨_, _, rfl, _⟩ := h; rfl
theorem len_Line_peak (h : sp_Line_peak K C args P) : args.length = 1 := by
 obtain ⟨_, _, rfl, _⟩ := h; rfl
theorem w_chain {r r' : R2p} {ta tb tc : TEp} {η : EP'} {Q : PV → EP' → Prop} (h : ta η fun x η1 => tb η1 fun y η2 => r x y fun z => ∃ k, z = .bl k ∧ if k = true then tc η2 fun w η3 => r' y w fun z' => Q z' η3 else Q (.bl false) η2) : tChainP r r' ta tb tc η Q := h
theorem w_maxD {t tk : TAp} {η : EP'} {Q : PV → EP' → Prop} (h : t η fun xs η1 => tk η1 fun zs η2 => ∃ ys ns d, xs = [.lst ys] ∧ zs = [.int d] ∧ intsOf ys = some ns ∧ Q (.int (maxI d ns)) η2) : tMaxDP t tk η Q := h
theorem w_listW {m fl : Str} {ta : TEp} {η : EP'} {Q : PV → EP' → Prop} (h : ta η fun x η1 => ∃ fs qs, x = .ins C fs ∧ fs.lookup m = none ∧ fs.lookup fl = some (.tup qs) ∧ qs.length < 1000 ∧ Q (.lst qs) η1) : tListWP C m fl ta η Q := h
theorem w_meth {m : Str} {sp : SpP} {dps : List PV} {ta : TEp} {t : TAp} {η : EP'} {Q : PV → EP' → Prop} (h : ta η fun x η1 => (∃ fs, x = .ins C fs ∧ fs.lookup m = none) ∧ t η1 fun args η2 => sp (x :: (args ++ dps)) fun z => Q z η2) : tMethP C m sp dps ta t η Q := h
theorem take_map {α β : Type} {l : List α} {f : α → β} {i : Nat} {a : α} (h : l[i]? = some a) : (l.take (i + 1)).map f = (l.take i).map f ++ [f a] := by
 rw [List.take_succ, h, List.map_append]
 rfl
theorem take_filter {α : Type} {l : List α} {p : α → Bool} {i : Nat} {a : α} (h : l[i]? = some a) : (l.take (i + 1)).filter p = (l.take i).filter p ++ [a].filter p := by
 rw [List.take_succ, h, List.filter_append]
 rfl
theorem take_filterT {α : Type} {l : List α} {p : α → Bool} {i : Nat} {a : α} (h : l[i]? = some a) (hp : p a = true) : (l.take (i + 1)).filter p = (l.take i).filter p ++ [a] := by
 rw [take_filter h, List.filter_cons_of_pos hp]
 rfl
theorem take_filterF {α : Type} {l : List α} {p : α → Bool} {i : Nat} {a : α} (h : l[i]? = some a) (hp : p a = false) : (l.take (i + 1)).filter p = (l.take i).filter p := by
 rw [take_filter h, List.filter_cons_of_neg (by rw [hp]; decide)]
 exact List.append_nil _
theorem filt_len {α : Type} {l : List α} {p : α → Bool} {i : Nat} (h : l.length ≤ 24) : ((l.take i).filter p).length < sizeLine := by
 have h1 := List.length_filter_le p (l.take i)
 rw [List.length_take] at h1
 have : 1000 < sizeLine := by decide
 omega
theorem rd_Line_capacity (h : sp_Line_capacity K C args P) : ts_Line_capacity K C { nx := fun _ => P .non, rt := fun x _ => P x } (startP 1 args) := by
 obtain ⟨n, rs, rfl, hp⟩ := h
 exact ⟨rfl, _, rfl, hp⟩
theorem rd_Line_len (h : sp_Line_len K C args P) : ts_Line_len K C { nx := fun _ => P .non, rt := fun x _ => P x } (startP 1 args) := by
 obtain ⟨n, rs, rfl, hp⟩ := h
 refine w_ret (w_cb (w_cons (w_fld (w_var rfl ⟨rfl, _, rfl, w_nil (q_lenT ?_)⟩))))
 rw [List.length_map]
 exact hp
theorem rd_Line_eq (h : sp_Line_eq K C args P) : ts_Line_eq K C { nx := fun _ => P .non, rt := fun x _ => P x } (startP 2 args) := by
 obtain ⟨n, rs, y, rfl, hC, hg, hp⟩ := h
 refine w_ret (w_andV (w_cb (w_cons (w_var (x := y) rfl (w_cons (w_con (w_nil ?_)))))))
 rcases hp with ⟨ht, hp⟩ | ⟨m, us, rfl, hu, hp⟩
 ·exact q_isC hC ht hp
 ·refine ⟨rfl, hC, ?_⟩
  refine w_andV (w_op (w_fld (w_var rfl ⟨rfl, _, rfl, w_fld (w_var rfl ⟨rfl, _, rfl, q_eq ?_⟩)⟩)))
  by_cases e : n = m
  ·rw [decide_eq_true e]
   refine w_op (w_fld (w_var rfl ⟨rfl, _, rfl, w_fld (w_var rfl ⟨rfl, _, rfl, ?_⟩)⟩))
   refine q_eqRows hg hu ?_
   rw [show decide (rs = us) = decide (n = m ∧ rs = us) by rw [Bool.eq_iff_iff]; simp [e]]
   exact hp
  ·rw [decide_eq_false e]
   rw [show decide (n = m ∧ rs = us) = false from decide_eq_false fun z => e z.1] at hp
   exact hp
theorem rd_load_of (h : sp_load_of K C args P) : ts_load_of K C { nx := fun _ => P .non, rt := fun x _ => P x } (startP 5 args) := by
 obtain ⟨rs, st, rfl, hl, hp⟩ := h
 have e : startP 5 [rowsP rs, .int st] = [.va (rowsP rs), .va (.int st), .no, .no, .no] := rfl
 rw [e]
 refine w_ret (w_cb (w_cons (w_val (w_lc (w_itup (w_var (x := rowsP rs) rfl ?_))))))
 refine ⟨fun i acc η => acc = ((rs.take i).filter (passes st)).map (fun r => .str r.1) ∧ η = [.va (rowsP rs), .va (.int st), .no, .no, .no], ⟨rfl, rfl⟩, ?_, ?_⟩
 ·rintro i x acc η hi ⟨rfl, rfl⟩
  rw [List.getElem?_map] at hi
  obtain ⟨r, hr, rfl⟩ := Option.map_eq_some_iff.mp hi
  refine ⟨rfl, w_g3 (w_bl (w_chain (w_var (x := .int r.2.1) rfl (w_var (x := .int st) rfl (q_le ⟨_, rfl, ?_⟩)))))⟩
  refine q_ite (fun a1 => w_var (x := .int r.2.2) rfl (q_lt (q_ite (fun a2 => ?_) fun a2 => ?_))) fun a1 => q_iteF ?_
  ·have pp : passes st r = true := by unfold passes; rw [decide_eq_true a1, decide_eq_true a2]; rfl
   refine w_var (x := .str r.1) rfl ⟨by rw [List.length_map]; exact filt_len hl, ?_, rfl⟩
   rw [take_filterT hr pp, List.map_append]
   rfl
  ·have pp : passes st r = false := by unfold passes; rw [decide_eq_true a1, decide_eq_false a2]; rfl
   exact ⟨by rw [take_filterF hr pp], rfl⟩
  ·have pp : passes st r = false := by unfold passes; rw [decide_eq_false a1]; rfl
   exact ⟨by rw [take_filterF hr pp], rfl⟩
 ·rintro acc η ⟨rfl, rfl⟩
  rw [List.length_map, List.take_length]
  refine w_nil (q_len ?_)
  rw [List.length_map]
  exact hp
theorem rd_Line_load (h : sp_Line_load K C args P) : ts_Line_load K C { nx := fun _ => P .non, rt := fun x _ => P x } (startP 2 args) := by
 obtain ⟨n, rs, st, rfl, h0, hl, hp⟩ := h
 have e : startP 2 [lineP C n rs, .int st] = [.va (lineP C n rs), .va (.int st)] := rfl
 rw [e]
 refine w_seq (w_if (w_not (w_bl (w_call (w_cons (w_var rfl (w_nil ⟨.int st, rfl, .inl rfl, ?_⟩)))))))
 rw [show isStn (.int st) = true from decide_eq_true h0]
 refine q_iteF (w_next ?_)
 dsimp only
 exact w_ret (w_call (w_cons (w_fld (w_var rfl ⟨rfl, _, rfl, w_cons (w_var rfl (w_nil ⟨rs, st, rfl, hl, hp⟩))⟩))))
theorem rd_Line_order (h : sp_Line_order K C args P) : ts_Line_order K C { nx := fun _ => P .non, rt := fun x _ => P x } (startP 2 args) := by
 obtain ⟨n, rs, rfl, hl, hp⟩ := h
 have e : startP 2 [lineP C n rs] = [.va (lineP C n rs), .no] := rfl
 rw [e]
 have ql := queue_len rs
 have sz : 1000 < sizeLine := by decide
 refine w_ret (w_cb (w_cons (w_val (w_lc (w_itup (w_fld (w_var rfl ⟨rfl, .tup ((queueT rs).map rowP), by rw [← queue_eq]; rfl, ?_⟩)))))))
 refine ⟨fun i acc η => acc = ((queueT rs).take i).map (fun r => .str r.1) ∧ η = [.va (lineP C n rs), .no], ⟨rfl, rfl⟩, ?_, ?_⟩
 ·rintro i x acc η hi ⟨rfl, rfl⟩
  rw [List.getElem?_map] at hi
  obtain ⟨r, hr, rfl⟩ := Option.map_eq_some_iff.mp hi
  refine w_gname (w_yes (q_iteT ?_))
  refine w_op (w_var (x := rowP r) rfl (w_con (q_ixT rfl ⟨?_, ?_, rfl⟩)))
  ·rw [List.length_map, List.length_take]
   omega
  ·rw [take_map hr]
 ·rintro acc η ⟨rfl, rfl⟩
  rw [List.length_map, List.take_length]
  exact w_nil (q_tupl hp)
theorem rd_Line_peak (h : sp_Line_peak K C args P) : ts_Line_peak K C { nx := fun _ => P .non, rt := fun x _ => P x } (startP 2 args) := by
 obtain ⟨n, rs, rfl, hl, hp⟩ := h
 have e : startP 2 [lineP C n rs] = [.va (lineP C n rs), .no] := rfl
 rw [e]
 have sz : 1000 < sizeLine := by decide
 refine w_ret (w_maxD (w_cons (w_val (w_lc (w_itup (w_fld (w_var rfl ⟨rfl, _, rfl, ?_⟩)))))))
 refine ⟨fun i acc η => acc = ((rs.take i).map fun r => loadN rs r.2.1).map .int ∧ η = [.va (lineP C n rs), .no], ⟨rfl, rfl⟩, ?_, ?_⟩
 ·rintro i x acc η hi ⟨rfl, rfl⟩
  rw [List.getElem?_map] at hi
  obtain ⟨r, hr, rfl⟩ := Option.map_eq_some_iff.mp hi
  refine w_gname (w_yes (q_iteT ?_))
  refine w_call (w_cons (w_fld (w_var (x := lineP C n rs) rfl ⟨rfl, _, rfl, w_cons (w_op (w_var (x := rowP r) rfl (w_con (q_ixT rfl (w_nil ⟨rs, r.2.1, rfl, hl, ?_, ?_, rfl⟩)))))⟩)))
  ·rw [List.length_map, List.length_map, List.length_take]
   omega
  ·rw [take_map hr, List.map_append]
   rfl
 ·rintro acc η ⟨rfl, rfl⟩
  rw [List.length_map, List.take_length]
  exact w_nil (w_cons (w_con (w_nil ⟨_, _, 0, rfl, rfl, intsOf_map _, hp⟩)))
theorem q_eqN {a b : Int} (h : P (.bl (decide (a = b)))) : rEqI false (.int a) (.int b) P := h
theorem w_lstP {te : TEp} {η : EP'} {Q : List PV → EP' → Prop} (h : te η fun x η1 => match x with | .lst xs => Q xs η1 | .scr ns => Q (ns.map .int) η1 | _ => False) : iListP te η Q := h
end
def Asc (us : List Trip) : Prop := us.Pairwise fun a b => a.1.cps.toList < b.1.cps.toList
end Z
set_option maxHeartbeats 2000000
namespace ZX
open PySem PySem.W PySem.Calls PyProof.Rows
section
variable {prog : Program} {w : World} {A : Around} {E : Value → Shared → Prop} {s : Shared} {h₀ : Heap} {L : Addr} {m mg mb : Str → Option Value} {news : List (Addr × Obj)} {K : Frag} {x C D f f2 cc cda so : Addr} {ox : Obj} {odx : Option Obj}
theorem super_node {body : List Stmt} {q : Str} {scope : Scope} {p0 p1 : Pos} {attr : Str} {whole : Sem Value} {fd : FuncData} {ar : Arg} {vs : Array Value} {file : Str} {tf : Tok} {oc ccl cl : Value} {od cdd cld : Option Addr} {osl ccs csl : Array (Option Value)} {cdD : ClassData} {Q : Value → Shared → Prop}
  (F : Fr h₀ L s.heap m) (X₀ : K.In h₀) (N : News h₀ L s.heap news) (Tg : s.heap.Ns mainGlobals mg) (Tb : s.heap.Ns builtinsNs mb) (Tv : mb "super" = some (.type "super"))
  (hf : K.lookup f = some ⟨oc, od, .func fd, osl⟩) (hp : (fd.params.posonlyargs ++ fd.params.args).head? = some ar) (hv : m ar.arg = some (.ref x)) (I : InstAt s.heap x ox C odx)
  (hcode : K.lookup cda = some ⟨ccl, cdd, .fields vs, ccs⟩) (hvs : vs[2]? = some (.str file tf)) (hfile : ((prog.main.file : Str) == file) = true)
  (hcell : K.lookup cc = some ⟨cl, cld, .cell (some (.ref D)), csl⟩) (hD : clsIn K D = some cdD) (hsub : mroIn K C (.ref D) = some true) (hsuper : mg "super" = none)
  (hat : (attr == ("__class__" : Str)) = false) (hks : scope.names.lookup ("super" : Str) = some .globalImplicit) (hkc : scope.names.lookup ("__class__" : Str) = some .free) (hka : scope.names.lookup ar.arg = some .local) (hk : scope.kind = .function)
  (htop : (prog.main.scope.names.lookup ("super" : Str)).isSome = false)
  (h : ∀ so h', Fr h₀ L h' m → News h₀ L h' ((so, ks_superObj D x C) :: news) → (∀ p ∈ news, p.1 < so) → Q (.ref so) { s with heap := h' }) :
  _root_.PySem.wpAt (model prog w) A (.func body (ksEnv q scope L f (.ref cda) cc)) (attributeBase (.Call (.Name "super" p0) [] [] p1) attr (ksEnv q scope L f (.ref cda) cc) whole) Q E s := by
 have X : K.In s.heap := X₀.keeps F.keep
 obtain ⟨hh, g, d, t, os⟩ := s
 obtain ⟨oD, hD1, hD2⟩ : ∃ oD, hh.get? D = some oD ∧ oD.data = .cls cdD := by
  unfold clsIn at hD
  split at hD
  ·rename_i c d cd' sl ho
   cases hD
   exact ⟨_, X _ _ ho, rfl⟩
  ·cases hD
 refine ks_wpAt_super_base (env := ksEnv q scope L f (.ref cda) cc) hks hkc hat rfl (X _ _ hf) rfl hp rfl (X _ _ hcode) rfl hvs hfile htop ?_
 refine ks_loadName_global hk hks (loadGlobal_builtin (env := ksEnv q scope L f (.ref cda) cc) Tg hsuper Tb Tv ⟨rfl, ?_⟩)
 refine wpAny_loadName_free hk hkc rfl ⟨_, X _ _ hcell, rfl⟩ ?_
 refine wpAny_loadName_local hk hka F.ns hv ?_
 refine ks_wpAny_isType_cls hD1 hD2 ⟨rfl, ?_⟩
 refine ks_wpAny_call_super hD1 hD2 I.at_ I.cls (fun c e => ?_) (looks_mroIn X hsub) (fun h' e k => ?_)
 ·have := I.no
  unfold notCls at this
  rw [e] at this
  exact Bool.noConfusion this
 ·obtain ⟨F', N', l'⟩ := ks_newsPush (s := ⟨hh, g, d, t, os⟩) F N rfl e k
  exact h _ _ F' N' l'
end
structure BaseX (B i newId : String) (bmB : List Value) : Prop where
 FB : ExcBaseFacts B newId i bmB
 KF : KxsFacts B i
 SF : StoreFacts B bmB "object.__setattr__" "object"
section
variable {prog : Program} {w : World} {A : Around} {E : Value → Shared → Prop} {K : Frag} {C fI cc cda : Addr} {mg mb : Str → Option Value} {R : Result → Shared → Prop} {B i newId : String} {bmB : List Value}
structure XInit (prog : Program) (K : Frag) (C fI cc cda : Addr) (fld : Str) (B i newId : String) (bmB : List Value) (fd : FuncData) : Prop where
 lk : ∃ (oc : Value) (od : Option Addr) (osl : Array (Option Value)) (qual : Str) (params : Arguments) (m : Str) (j : Nat) (p0 p1 p2 p3 p4 p5 p6 p7 p8 p9 : Pos) (scope : Scope) (dV kV doc pm ct : Value) (an : Option Addr) (ar : Arg),
  fd = ksFn "__init__" qual params [.Expr (.Call (.Attribute (.Call (.Name "super" p0) [] [] p1) "__init__" p2) [.Constant (.str m) j p3] [] p4) p5, .Assign [.Attribute (.Name "self" p6) fld p7] (.Name fld p8) p9] scope dV kV doc pm an (.ref cda) ct cc ∧
  K.lookup fI = some ⟨oc, od, .func fd, osl⟩ ∧ codeIn K (.ref cda) qual = true ∧ (params.posonlyargs ++ params.args).head? = some ar ∧ ar.arg = "self" ∧
  scope.names.lookup ("super" : Str) = some .globalImplicit ∧ scope.names.lookup ("__class__" : Str) = some .free ∧ scope.names.lookup ("self" : Str) = some .local ∧ scope.names.lookup fld = some .local ∧ scope.kind = .function ∧ scope.isCoroutine = false ∧ scope.isGenerator = false ∧
  (∀ x ∈ scope.names, x.2 ≠ .cell) ∧ (∀ L : Addr, interactive (ksEnv qual scope L fI (.ref cda) cc) = false) ∧
  (∀ L : Addr, ∃ pl : Sem Bool, eval (.Call (.Attribute (.Call (.Name "super" p0) [] [] p1) "__init__" p2) [.Constant (.str m) j p3] [] p4) (ksEnv qual scope L fI (.ref cda) cc) = (do
   let ov ← attributeBase (.Call (.Name "super" p0) [] [] p1) "__init__" (ksEnv qual scope L fI (.ref cda) cc) (eval (.Call (.Name "super" p0) [] [] p1) (ksEnv qual scope L fI (.ref cda) cc))
   standAt p2.atName
   let (f, first) ← holding [ov] (getMethod ov "__init__" pl)
   callWith p4 f first (backTo p4 (starEach [.Constant (.str m) j p3] (ksEnv qual scope L fI (.ref cda) cc))) [])) ∧
  (∀ L : Addr, swapsWith (.Call (.Attribute (.Call (.Name "super" p0) [] [] p1) "__init__" p2) [.Constant (.str m) j p3] [] p4) none p5.line (ksEnv qual scope L fI (.ref cda) cc) = pure false) ∧
  (∀ L : Addr, swapsWith (.Name fld p8) (some (.Attribute (.Name "self" p6) fld p7)) p9.line (ksEnv qual scope L fI (.ref cda) cc) = pure false)
 bind : ∀ (s : Shared) (e u : Value), BindsTo s fd ⟨[e, u], []⟩ [("self", e), (fld, u)]
 cell : ∃ (cl : Value) (cld : Option Addr) (csl : Array (Option Value)), K.lookup cc = some ⟨cl, cld, .cell (some (.ref C)), csl⟩
 code : ∃ (ccl : Value) (cdd : Option Addr) (vs : Array Value) (ccs : Array (Option Value)) (file : Str) (tf : Tok), K.lookup cda = some ⟨ccl, cdd, .fields vs, ccs⟩ ∧ vs[2]? = some (.str file tf) ∧ ((prog.main.file : Str) == file) = true
 top : (prog.main.scope.names.lookup ("super" : Str)).isSome = false
 cls : ∃ cd, clsIn K C = some cd
 sub : mroIn K C (.ref C) = some true
 subB : subIn K (.ref C) (.type B) = some true
 opq : nsIn K cStatics "thirdparty.any" = some none
 sup : ks_superIn K C C "__init__" = some (some (.builtin i))
 ini : excInitIn K C bmB newId = true
 sa : findIn K (.ref C) "__setattr__" = some (some (.builtin "object.__setattr__"))
 ov : excOver K C bmB = true
 tk : takerIn K C fld = some none
 hd : hasDictIn K C = true
 nf : (fld == ("__debug__" : Str)) = false
 ns : fld ≠ "self"
theorem updF4 {d : Addr} {o : Obj} {p1 p2 p3 : Addr × Obj} (h1 : p1.1 ≠ d) (h2 : p2.1 ≠ d) (h3 : p3.1 ≠ d) : UpdF d o (p1 :: p2 :: p3 :: [(d, o)]) (fun o' => p1 :: p2 :: p3 :: [(d, o')]) :=
 .tail h1 (.tail h2 (.tail h3 (.head fun p hp => absurd hp (by simp))))
theorem ldK {A : Around} {h₀ : Heap} {L f : Addr} {m : Str → Option Value} {q : Str} {scope : Scope} {cd : Value} {s : Shared} {x : Str} {pos : Pos} {v : Value} {Q : Value → Shared → Prop} {M : Model} (F : Fr h₀ L s.heap m) (hv : m x = some v) (h : Q v s)
  (hk : scope.kind = .function) (hl : scope.names.lookup x = some .local) (hd : (x == ("__debug__" : Str)) = false) :
  wpAny M A (eval (.Name x pos) (ksEnv q scope L f cd cc)) Q E s := wpAny_Name (wpAny_loadName_local hk hl F.ns hv h) hd
theorem init_run {h : Heap} {g : Array GenState} {d : Drawn} {t : Nat} {os : OsState} {fd : FuncData} {fld : Str} {e t0 : Addr} {u : Value} (BX : BaseX B i newId bmB) (Y : XInit prog K C fI cc cda fld B i newId bmB fd) (X : K.In h) (Tg : h.Ns mainGlobals mg) (Tb : h.Ns builtinsNs mb) (Tv : mb "super" = some (.type "super"))
  (hsuper : mg "super" = none) (lim : h.NoLimit) (hroom : A.depth < recursionLimit) (he : h.get? e = some (excObj C t0 none .none)) (hKe : K.lookup e = none)
  (hq : ∀ (h' : Heap) (t' dx : Addr) (es : List DictEntry) (n tk : Nat), (∀ b o, b ≠ e → h.get? b = some o → h'.get? b = some o) → h'.get? e = some (excObj C t' (some dx) .none) → h'.get? dx = some (dictOf es n) → (h.get? dx = none ∧ e < dx) →
   (∃ tk1, (putL fld (PyData.keyHash w.params fld) (.str fld tk1) u [], putN fld [] 0) = (es, n)) → R (.ok (.ret .none)) ⟨h', g, d, tk, os⟩) :
  codeAny (model prog w) A (.call (.ref fI) ⟨[.ref e, u], []⟩) R ⟨h, g, d, t, os⟩ := by
 obtain ⟨oc, od, osl, qual, params, m, j, p0, p1, p2, p3, p4, p5, p6, p7, p8, p9, scope, dV, kV, doc, pm, ct, an, ar, rfl, lk, hcd, hp, har, k1, k2, k3, k4, k5, k6, k7, k8, k9, k10, k11, k12⟩ := Y.lk
 obtain ⟨cl, cld, csl, hcell⟩ := Y.cell
 obtain ⟨ccl, cdd, vs, ccs, file, tf, hcode, hvs, hfile⟩ := Y.code
 obtain ⟨cd, hcls⟩ := Y.cls
 refine ks_codeAny_call_defAt (fd := ksFn "__init__" qual params _ scope dV kV doc pm an (.ref cda) ct cc) (binds := [("self", .ref e), (fld, u)]) hroom (X _ _ lk) rfl lim (codeRec_of X hcd) rfl (Y.bind _ _ _) k8 (fun y hy => ?_) (fun h₁ hns hk₁ => ?_) k6 k7 k5
 ·rcases List.mem_cons.mp hy with rfl | hy
  ·exact k3
  rcases List.mem_cons.mp hy with rfl | hy
  ·exact k4
  ·cases hy
 -- the ground: all but the exception's object
 have Xh : K.In (hideAll h [e]) := fun b o q => hideAll_get _ (X _ _ q) (fun z => by
  have z : b = e := by simpa using z
  rw [z, hKe] at q
  cases q)
 have F : Fr (hideAll h [e]) h.objs.size h₁ (fun x => [(("self" : Str), Value.ref e), (fld, u)].reverse.lookup x) := ⟨hns, fun b o q => hk₁ b o (of_hideAll _ q), Nat.le_of_eq (hideAll_size _ _)⟩
 have N : News (hideAll h [e]) h.objs.size h₁ [(e, excObj C t0 none .none)] := fun p hp => by
  have e2 : p = (e, excObj C t0 none .none) := by simpa using hp
  subst e2
  exact ⟨hk₁ _ _ he, Nat.ne_of_lt (Heap.lt_size he), hideAll_none _ (by simp)⟩
 have Tg' : h₁.Ns mainGlobals mg := Tg.at fun o q => hk₁ _ o q
 have Tb' : h₁.Ns builtinsNs mb := Tb.at fun o q => hk₁ _ o q
 have mS : (fun x => [(("self" : Str), Value.ref e), (fld, u)].reverse.lookup x) "self" = some (.ref e) := by
  show List.lookup ("self" : Str) [(fld, u), (("self" : Str), Value.ref e)] = _
  have n : (("self" : Str) == fld) = false := by simpa using Ne.symm Y.ns
  simp [List.lookup, n]
 have mF : (fun x => [(("self" : Str), Value.ref e), (fld, u)].reverse.lookup x) fld = some u := by
  show List.lookup fld [(fld, u), (("self" : Str), Value.ref e)] = _
  simp [List.lookup]
 have I0 : InstAt h₁ e (excObj C t0 none .none) C none := ⟨(N (e, excObj C t0 none .none) (by simp)).1, rfl, rfl, trivial⟩
 have h3 : scope.names.lookup ar.arg = some .local := by rw [har]; exact k3
 have mS' : (fun x => [(("self" : Str), Value.ref e), (fld, u)].reverse.lookup x) ar.arg = some (.ref e) := by rw [har]; exact mS
 obtain ⟨pl, hev⟩ := k10 h.objs.size
 refine ks_wpAt_execs_cons (ks_wpAt_Expr_any (ks_wpAt_MethodCall ?_ hev) (k9 _) (k11 _))
 refine super_node (news := [(e, excObj C t0 none .none)]) F Xh N Tg' Tb' Tv lk hp mS' I0 hcode hvs hfile hcell hcls Y.sub hsuper (by decide) k1 k2 h3 k5 Y.top (fun so h2 F2 N2 l2 => ?_)
 have I2 : InstAt h2 e (excObj C t0 none .none) C none := ⟨(N2 (e, excObj C t0 none .none) (by simp)).1, rfl, rfl, trivial⟩
 refine kxs_method BX.KF F2 Xh N2 List.mem_cons_self I2 Y.opq Y.sup Y.subB (by decide) (fun q h3' F3 N3 l3 => ?_)
 refine kxs_callWith1 (i := i) (x := e) (u := q) N3 List.mem_cons_self ?_
 refine spliced_more (Calls.Constant_str ?_)
 refine spliced_none ?_
 refine ⟨kxs_at N3 List.mem_cons_self, ?_⟩
 have e1 : so ≠ e := Nat.ne_of_gt (l2 (e, excObj C t0 none .none) (by simp))
 have e2 : q ≠ e := Nat.ne_of_gt (l3 (e, excObj C t0 none .none) (by simp))
 have U : UpdF e (excObj C t0 none .none) ((q, kxs_mw i e) :: (so, ks_superObj C e C) :: [(e, excObj C t0 none .none)]) (fun o => (q, kxs_mw i e) :: (so, ks_superObj C e C) :: [(e, o)]) :=
  .tail e2 (.tail e1 (.head fun p hp => by cases hp))
 refine kxs_call F3 Xh N3 BX.FB Y.ini List.mem_cons_self U (by rw [sizeLine_eq]; simp) (fun t' h4 F4 N4 l4 => ?_)
 -- the second row
 obtain ⟨oT, N5'⟩ : ∃ oT, News (hideAll h [e]) h.objs.size h4 ((t', oT) :: (q, kxs_mw i e) :: (so, ks_superObj C e C) :: [(e, excObj C t' none .none)]) := ⟨_, N4⟩
 refine wpAt_of_wpAny ?_
 show wpAny _ _ (execs [.Assign [.Attribute (.Name "self" p6) fld p7] (.Name fld p8) p9] _) _ _ _
 refine wpAny_execs_cons (plainObj_wpAny_Assign_Attribute ?_ (k12 _))
 refine ldK F4 mF ?_ k5 k4 Y.nf
 refine ldK F4 mS ?_ k5 k3 (by decide)
 have e3 : t' ≠ e := Nat.ne_of_gt (l4 (e, excObj C t0 none .none) (by simp))
 refine set_exc0 (t := t') (c2 := .none) (es' := (putL fld (PyData.keyHash w.params fld) (.str fld _) u [])) (n' := putN fld [] 0) (nw := fun o => (t', oT) :: (q, kxs_mw i e) :: (so, ks_superObj C e C) :: [(e, o)]) BX.SF F4 Xh N5' ?_ Y.sa Y.ov Y.tk Y.hd rfl ?_ ?_ ?_
 ·simp
 ·exact updF4 (p1 := (t', oT)) (p2 := (q, _)) (p3 := (so, _)) e3 e2 e1
 ·simp [putL]
 ·intro dx h5 F5 N5 l5
  refine wpAny_execs_nil ?_
  refine hq h5 t' dx _ _ _ (fun b o hb hbo => F5.keep b o (hideAll_get _ hbo (fun z => hb (by simpa using z)))) (N5 (e, _) (by simp)).1 (N5 (dx, _) List.mem_cons_self).1 ?_ ⟨_, rfl⟩
  have n1 : dx ≠ e := Nat.ne_of_gt (l5 (e, excObj C t' none .none) (by simp))
  refine ⟨?_, l5 (e, excObj C t' none .none) (by simp)⟩
  have n2 := (N5 (dx, _) List.mem_cons_self).2.2
  cases z : h.get? dx with
  | none => rfl
  | some o =>
   rw [hideAll_get _ z (fun y => n1 (by simpa using y))] at n2
   cases n2
end
end ZX
namespace ZX
open PySem PySem.Spec PyProof.Rows L2
theorem ns1_one {h : Heap} {dx : Addr} {f : Str} {hs : Int} {tk : Tok} {u : Value} {n : Nat} (e : h.get? dx = some (PySem.W.dictOf [⟨hs, .str f tk, u⟩] n)) : h.Ns1 dx (fun y => if y = f then some u else none) := by
 refine ⟨_, _, _, e, rfl, ?_, ?_, ?_⟩
 ·intro x hx
  have : x = ⟨hs, .str f tk, u⟩ := by simpa using hx
  subst this
  exact ⟨_, _, rfl⟩
 ·unfold UniqKeys
  simp
 ·intro name
  unfold nsFind findBy
  by_cases q : name = f
  ·subst q
   simp [Value.isStr]
  ·have q' : (f == name) = false := by simpa using Ne.symm q
   simp [Value.isStr, q, q']
section
variable {X : Cx} {C fI cc cda : Addr} {B i newId : String} {bmB : List Value} {fld : Str} {fd : FuncData}
theorem roomH_make {k : Nat} {A : Around} (r : L2H.RoomH (k + 1) A) (C : Addr) (us : List Value) : L2H.RoomH k (A.under (.builtin "type.__call__" ⟨.ref C :: us, []⟩)) :=
 ⟨by have := r.dp; rw [make_depth]; omega, by have := r.un; rw [make_units]; omega⟩
def tMkX (C : Addr) (fld : Str) (ta : TA) : L2.St → Hp → XK → Prop := fun σ H Q => ta σ H fun vs H1 => ∃ v, vs = [v] ∧ ∀ d, H1 d = none → Q (.ref C) (some d) (upd H1 d (.xd [(fld, v)]))
structure XCl (K : PySem.W.Frag) (C fI : Addr) : Prop where
 iC : PySem.W.findIn K (.ref C) "__init__" = some (some (.ref fI))
 tI : PySem.W.typeIn K (.ref fI) = some (.type "function")
 exC : PySem.W.subIn K (.ref C) (.type "BaseException") = some true
 tyC : PySem.W.typeIn K (.ref C) = some (.type "type")
 kC : PySem.W.keepIn K (.ref C) = true
theorem pmk_X {x : Str} {p pos : Pos} {e : Expr} {es : List Expr} {ta : TA} (BX : BaseX B i newId bmB) (Y : XInit X.prog X.K C fI cc cda fld B i newId bmB fd) (T : XCl X.K C fI) (hsup : X.mg "super" = none) (hr : L2H.RoomH 1 X.A) (hg : Gl X x) (hm : X.mg x = some (.ref C)) (ha : PA X (e :: es) ta)
  (hdb : (x == ("__debug__" : Str)) = false := by decide) (he : starEach (e :: es) X.env = (false, eval e X.env) :: starEach es X.env := by rfl) (hpl : (backTo pos (starEach es X.env)).any (·.1) = false := by rfl) :
  L2N.PMk X (.Call (.Name x p) (e :: es) [] pos) (tMkX C fld ta) := by
 intro pins s σ H Q I h
 refine wpAny_Call_Name_kw (ld_glob I hg hm ?_ hdb)
 refine PySem.W.callWith_K (h₀ := X.base) I.ok.mod.kin T.kC (thn (ha.run pos pins s σ H _ I h) fun us s1 ⟨vs, H1, I1, r1, v, ev, q1⟩ => ⟨I1.kIn, ?_⟩) he hpl
 show wpAny _ _ (call (.ref C) us) _ _ _
 subst ev
 cases r1 with
 | @cons _ u _ ur ra rr =>
 cases rr
 obtain ⟨hp, g, dr, tk, os⟩ := s1
 obtain ⟨nm, N', qn, bs, bm, hdct, sn, sub, ab, col, dd, k0, k1, k2, k3, k5, hC, hT⟩ := PySem.W.excInit_of I1.kIn Y.ini
 have kk : ∀ b o, hp.get? b = some o → ((hp.push (PySem.W.kdv_tup [u])).push (PySem.HandSPX.excO C hp.objs.size)).get? b = some o := fun b o e => Heap.get?_push_of_some _ (Heap.get?_push_of_some _ e)
 have hget : ((hp.push (PySem.W.kdv_tup [u])).push (PySem.HandSPX.excO C hp.objs.size)).get? (hp.objs.size + 1) = some (PySem.HandSPX.excO C hp.objs.size) := by heap_get
 obtain ⟨mb, hb1, hb2⟩ := I1.ok.mod.blt
 have nK : X.K.lookup (hp.objs.size + 1) = none := by
  cases z : X.K.lookup (hp.objs.size + 1) with
  | none => rfl
  | some o => exact absurd (Heap.lt_size (I1.kIn _ _ z)) (by show ¬ (hp.objs.size + 1 < hp.objs.size); omega)
 refine wpAny_call (PySem.HandSPX.call_own BX.FB hT hC (PySem.W.looks_findIn I1.kIn T.iC) (fun self => PySem.W.bind_fn I1.kIn self T.tI) (by rw [sizeLine_eq]; simp) ?_)
 have bk : ∀ b o, X.base.get? b = some o → hp.get? b = some o := I1.bk
 refine init_run (mg := X.mg) (mb := mb) BX Y (fun b o e => kk b o (I1.kIn b o e)) (I1.ok.mod.glob.keeps fun b o e => kk b o (bk b o e)) (hb1.keeps fun b o e => kk b o (bk b o e)) ((hb2 _ (by decide)).trans (by decide +kernel)) hsup (I1.ok.mod.nolimit.keeps fun b o e => kk b o (bk b o e)) ?_ hget nK ?_
 ·exact (roomH_make hr C [u]).depth
 ·intro h' t' dx es0 n0 tk0 k1 e1 e2 e3 e4
  obtain ⟨nd, ld0⟩ := e3
  have ld : hp.objs.size + 1 < dx := ld0
  obtain ⟨tk1, e4⟩ := e4
  obtain ⟨e5, e6⟩ := Prod.mk.inj e4
  refine ⟨rfl, ?_⟩
  have hsz : hp.objs.size ≤ dx := by omega
  have hn : H1 dx = none := I1.hok.fresh hsz
  have na : H1 (hp.objs.size + 1) = none := I1.hok.fresh (by show hp.objs.size ≤ hp.objs.size + 1; omega)
  obtain ⟨G, g1, g2⟩ := restrict h' fun b => decide (b ≠ hp.objs.size + 1)
  have gk : ∀ b, b ≠ hp.objs.size + 1 → G.get? b = h'.get? b := fun b hb => g1 b (decide_eq_true hb)
  have ge : G.get? (hp.objs.size + 1) = none := g2 _ (by simp)
  have kG : ∀ b o, hp.get? b = some o → G.get? b = some o := fun b o e => by
   have nb : b ≠ hp.objs.size + 1 := Nat.ne_of_lt (Nat.lt_succ_of_lt (Heap.lt_size e))
   rw [gk b nb]
   exact k1 b o nb (kk b o e)
  have hdx : G.get? dx = some (PySem.W.dictOf es0 n0) := (gk dx (by omega)).trans e2
  have hns : G.Ns1 dx (fun y => if y = fld then some u else none) := by
   have z : es0 = [⟨PyData.keyHash X.w.params fld, .str fld tk1, u⟩] := by rw [← e5]; rfl
   rw [z] at hdx
   exact ns1_one hdx
  have J : Inv X pins σ (upd H1 dx (.xd [(fld, v)])) ⟨G, g, dr, tk0, os⟩ := I1.laid (t' := tk0) (a := dx) (o := .xd [(fld, v)]) (h' := G) kG hsz ⟨_, hns, fun f => by
   by_cases q : f = fld
   ·subst q
    simp [List.lookup]
    exact ra
   ·have q' : (f == fld) = false := by simpa using q
    simp [List.lookup, q, q']
    exact True.intro⟩
  refine ⟨hp.objs.size + 1, _, _, ⟨G, g, dr, tk0, os⟩, _, .ref C, some dx, rfl, J, fun b o z => ?_, ge, e1, ⟨rfl, rfl, fun vs q => by cases q; rfl⟩, rfl, rfl, ?_, rfl, J.bare, raises_own T.exC T.tyC, q1 dx hn⟩
  ·by_cases hb : b = hp.objs.size + 1
   ·rw [hb, ge] at z
    cases z
   ·exact (gk b hb).symm.trans z
  ·rw [upd_ne (by show hp.objs.size + 1 ≠ dx; omega)]
   exact na
end
end ZX
namespace Z
open PySem PySem.Spec L2 GenW
open PyProof.Rows hiding St
section
variable {X : Cx} {T : List (Addr × Str)} {e o c : Expr} {es : List Expr} {st : Stmt} {body rest : List Stmt} {te ta : TEp} {t : TAp} {tt : TTp} {ts tb : TSp} {pos p p' pos' : Pos} {k : Nat} {f : Addr} {fd : FuncData} {ps : List Str} {x nm : Str} {i : Nat}
structure GEndsP where
 nx : List PV → EP' → Prop
abbrev TGSp := GEndsP → List PV → EP' → Prop
theorem GS.weak {t t' : TGn} (h : GS X st t) (w : ∀ D ys σ H, t' D ys σ H → t D ys σ H) : GS X st t' := ⟨fun A S ip R n ys s₀ c fs K J gd lv s σ H D g hn kk hI ht => h.run A S ip R n ys s₀ c fs K J gd lv s σ H D g hn kk hI (w _ _ _ _ ht)⟩
theorem GSs.weak {t t' : TGn} (h : GSs X body t) (w : ∀ D ys σ H, t' D ys σ H → t D ys σ H) : GSs X body t' := ⟨fun A S ip R n ys s₀ c fs K J gd lv s σ H D g hn kk hI ht => h.run A S ip R n ys s₀ c fs K J gd lv s σ H D g hn kk hI (w _ _ _ _ ht)⟩
end
end Z
namespace Z
open PySem PySem.Spec L2
open PyProof.Rows hiding St
theorem Room.u1 {k : Nat} {A : Around} (h : Room k A) : A.units + 1 < cLine := by have := h.units; omega
def valP : List (Key × PV) → Key → Option PV
 | [], _ => none
 | p :: r, k => if p.1 = k then some p.2 else valP r k
def putP (kvs : List (Key × PV)) (k : Key) (x : PV) : List (Key × PV) :=
 if (kvs.any fun kv => decide (kv.1 = k)) = true then kvs.map (fun kv => if kv.1 = k then (kv.1, x) else kv) else kvs ++ [(k, x)]
section
variable {K : PySem.W.Frag} {O O' : Addr → Prop} {H H' : Hp}
theorem RepD.inv {n : Key} {x : PV} {xs : List (Key × PV)} {vs : List (Key × V)} (h : RepD K O H ((n, x) :: xs) vs) : ∃ v us, vs = (n, v) :: us ∧ Rep K O H x v ∧ RepD K O H xs us := by unfold RepD at h; exact h
theorem RepD.inv0 {vs : List (Key × V)} (h : RepD K O H [] vs) : vs = [] := by unfold RepD at h; exact h
theorem RepD.cons {n : Key} {x : PV} {v : V} {xs : List (Key × PV)} {vs : List (Key × V)} (h : Rep K O H x v) (t : RepD K O H xs vs) : RepD K O H ((n, x) :: xs) ((n, v) :: vs) := by unfold RepD; exact ⟨v, vs, rfl, h, t⟩
theorem RepD.app : ∀ {xs ys : List (Key × PV)} {vs us : List (Key × V)}, RepD K O H xs vs → RepD K O H ys us → RepD K O H (xs ++ ys) (vs ++ us)
 | [], _, _, _, h, t => by rw [h.inv0]; exact t
 | (n, x) :: xs, _, _, _, h, t => by
  obtain ⟨v, us, rfl, r, q⟩ := h.inv
  exact .cons r (q.app t)
theorem RepD.val : ∀ {xs : List (Key × PV)} {vs : List (Key × V)} (k : Key), RepD K O H xs vs → (∀ x, valP xs k = some x → ∃ v, valV vs k = some v ∧ Rep K O H x v) ∧ (valP xs k = none → valV vs k = none)
 | [], _, k, h => by
  rw [h.inv0]
  exact ⟨fun x e => (nomatch e), fun _ => rfl⟩
 | (n, x) :: xs, _, k, h => by
  obtain ⟨v, us, rfl, r, t⟩ := h.inv
  obtain ⟨h1, h2⟩ := t.val k
  by_cases e : n = k
  ·refine ⟨fun y q => ?_, fun q => ?_⟩
   ·unfold valP at q; rw [if_pos e] at q; cases q
    exact ⟨v, valV_pos (p := (n, v)) e, r⟩
   ·unfold valP at q; rw [if_pos e] at q; cases q
  ·rw [valV_neg (p := (n, v)) e]
   unfold valP; rw [if_neg e]
   exact ⟨h1, h2⟩
theorem RepD.any : ∀ {xs : List (Key × PV)} {vs : List (Key × V)} (k : Key), RepD K O H xs vs → (vs.any fun kv => decide (kv.1 = k)) = (xs.any fun kv => decide (kv.1 = k))
 | [], _, k, h => by rw [h.inv0]; rfl
 | (n, x) :: xs, _, k, h => by
  obtain ⟨v, us, rfl, r, t⟩ := h.inv
  rw [List.any_cons, List.any_cons, t.any k]
theorem RepD.repl : ∀ {xs : List (Key × PV)} {vs : List (Key × V)} (k : Key) {y : PV} {u : V}, RepD K O H xs vs → Rep K O H y u → RepD K O H (xs.map fun kv => if kv.1 = k then (kv.1, y) else kv) (vs.map fun kv => if kv.1 = k then (kv.1, u) else kv)
 | [], _, k, _, _, h, _ => by rw [h.inv0]; exact .nil
 | (n, x) :: xs, _, k, _, _, h, ry => by
  obtain ⟨v, us, rfl, r, t⟩ := h.inv
  rw [List.map_cons, List.map_cons]
  by_cases e : n = k
  ·rw [if_pos e, if_pos e]; exact .cons ry (t.repl k ry)
  ·rw [if_neg e, if_neg e]; exact .cons r (t.repl k ry)
theorem RepD.put {xs : List (Key × PV)} {vs : List (Key × V)} (k : Key) {y : PV} {u : V} (h : RepD K O H xs vs) (ry : Rep K O H y u) : RepD K O H (putP xs k y) (putK vs k u) := by
 unfold putP putK
 rw [h.any k]
 split
 ·exact h.repl k ry
 ·exact h.app (.cons ry .nil)
theorem Rep.dic_ {kvs : List (Key × PV)} {v : V} (h : Rep K O H (.dic kvs) v) : ∃ a ws, v = .ref a ∧ ¬ O a ∧ H a = some (.dK ws) ∧ RepD K O H kvs ws := by unfold Rep at h; exact h
end
abbrev TFDp := EP' → (List (Key × PV) → EP' → Prop) → Prop
section
variable {X : Cx} {T : List (Addr × Str)} {e o a b : Expr} {es : List Expr} {te ta tb ti : TEp} {t : TAp} {tr : TArp} {tf : TFDp} {pos : Pos} {i : Nat}
end
end Z
namespace Z
open PySem PySem.Spec L2
open PyProof.Rows hiding St
inductive Ab where
 | v (x : PV) | b (i : Nat)
abbrev TAbp := EP' → (List Ab → EP' → Prop) → Prop
mutual
def tpV : PV → Bool
 | .tup xs => tpVs xs
 | .pln xs => tpVs xs
 | .non => true
 | .bl _ => true
 | .int _ => true
 | .str _ => true
 | _ => false
def tpVs : List PV → Bool
 | [] => true
 | x :: xs => tpV x && tpVs xs
end
section
variable {K : PySem.W.Frag} {O O' : Addr → Prop} {H H' : Hp}
mutual
theorem tpV_back (hB : ∀ a, O' a → ¬ O a → ∀ vs, ¬ Rd H a (.tup vs)) : ∀ (x : PV) (v : V), tpV x = true → Rep K O H x v → Rep K O' H x v
 | .tup xs, v, e, h => by
  obtain ⟨a, vs, rfl, t, r⟩ := h.tup_
  unfold tpV at e
  unfold Rep
  refine ⟨a, vs, rfl, ?_, tpVs_back hB xs vs e r⟩
  rcases t with ⟨n, q⟩ | t
  ·exact .inl ⟨fun z => hB a z n vs q, q⟩
  ·exact .inr t
 | .pln xs, v, e, h => by
  unfold tpV at e
  unfold Rep at h ⊢
  obtain ⟨a, vs, o, rfl, n, q, d, r⟩ := h
  exact ⟨a, vs, o, rfl, fun z => hB a z n vs (.inr ⟨o, q⟩), q, d, tpVs_back hB xs vs e r⟩
 | .non, _, _, h => by unfold Rep at h ⊢; exact h
 | .bl _, _, _, h => by unfold Rep at h ⊢; exact h
 | .int _, _, _, h => by unfold Rep at h ⊢; exact h
 | .str _, _, _, h => by unfold Rep at h ⊢; exact h
 | .lst _, _, e, _ => by unfold tpV at e; cases e
 | .scr _, _, e, _ => by unfold tpV at e; cases e
 | .ins _ _, _, e, _ => by unfold tpV at e; cases e
 | .dic _, _, e, _ => by unfold tpV at e; cases e
 | .raw _, _, e, _ => by unfold tpV at e; cases e
theorem tpVs_back (hB : ∀ a, O' a → ¬ O a → ∀ vs, ¬ Rd H a (.tup vs)) : ∀ (xs : List PV) (vs : List V), tpVs xs = true → Reps K O H xs vs → Reps K O' H xs vs
 | [], _, _, h => by rw [h.inv0]; exact .nil
 | x :: xs, _, e, h => by
  obtain ⟨v, us, rfl, r, t⟩ := h.inv
  unfold tpVs at e
  rw [Bool.and_eq_true] at e
  exact .cons (tpV_back hB x v e.1 r) (tpVs_back hB xs us e.2 t)
end
end
end Z
namespace Z
open PySem PySem.Spec L2
open PyProof.Rows hiding St
end Z
namespace Z
open PySem PySem.Spec L2
open PyProof.Rows hiding St
structure ZSt (z TI TO i1 i2 l1 l2 S : Addr) (xs ys : Array Value) (i : Nat) (h : Heap) : Prop where
 ti : IsPair h TI (.ref i1) (.ref i2)
 h1 : h.IsListIter i1 l1 i
 h2 : h.IsListIter i2 l2 i
 l1 : h.IsList l1 xs
 l2 : h.IsList l2 ys
 to : ∃ o, h.get? TO = some o
 z : (IsZip h z TI TO .none ∧ ∃ a b, IsPair h TO a b) ∨ ∃ T f oT, IsZipHeld h z TI TO T f ∧ h.get? T = some oT ∧ T ≠ z ∧ T ≠ i1 ∧ T ≠ i2 ∧ T ≠ S
section
variable {prog : Program} {w : World} {A : Around} {E : Value → Shared → Prop} {s : Shared} {z TI TO i1 i2 l1 l2 S : Addr} {xs ys : Array Value} {i : Nat}
theorem ZSt.type (st : ZSt z TI TO i1 i2 l1 l2 S xs ys i s.heap) : s.TypeIs (.ref z) "zip" := by
 rcases st.z with ⟨hz, _⟩ | ⟨T, f, oT, hz, _⟩
 ·exact ⟨_, hz, rfl⟩
 ·exact ⟨_, hz, rfl⟩
theorem ZSt.frame {h h' : Heap} (st : ZSt z TI TO i1 i2 l1 l2 S xs ys i h) (dS : S ≠ z ∧ S ≠ TI ∧ S ≠ TO ∧ S ≠ i1 ∧ S ≠ i2 ∧ S ≠ l1 ∧ S ≠ l2) (hk : ∀ b o, b ≠ S → h.get? b = some o → h'.get? b = some o) : ZSt z TI TO i1 i2 l1 l2 S xs ys i h' := by
 obtain ⟨hTI, h1, h2, hl1, hl2, ⟨oTO, hto⟩, hz⟩ := st
 obtain ⟨dz, dTI, dTO, di1, di2, dl1, dl2⟩ := dS
 refine ⟨hk _ _ (Ne.symm dTI) hTI, h1.at fun o e => hk _ o (Ne.symm di1) e, h2.at fun o e => hk _ o (Ne.symm di2) e, hl1.at fun o e => hk _ o (Ne.symm dl1) e, hl2.at fun o e => hk _ o (Ne.symm dl2) e, ⟨oTO, hk _ _ (Ne.symm dTO) hto⟩, ?_⟩
 rcases hz with ⟨hz, a, b, hTO⟩ | ⟨T, f, oT, hz, hT, r1, r2, r3, r4⟩
 ·exact .inl ⟨hk _ _ (Ne.symm dz) hz, a, b, hk _ _ (Ne.symm dTO) hTO⟩
 ·exact .inr ⟨T, f, oT, hk _ _ (Ne.symm dz) hz, hk _ _ r4 hT, r1, r2, r3, r4⟩
theorem ZSt.item {x y : Value} {Q : Option Value → Shared → Prop} (st : ZSt z TI TO i1 i2 l1 l2 S xs ys i s.heap) (D : ZipApart z TI TO i1 i2 l1 l2) (hS : S < s.heap.objs.size) (ex : xs[i]? = some x) (ey : ys[i]? = some y)
  (hQ : ∀ h', IsPair h' s.heap.objs.size x y → ZSt z TI TO i1 i2 l1 l2 S xs ys (i + 1) h' → (∀ b o, b ∉ [z, TI, TO, i1, i2] → s.heap.get? b = some o → h'.get? b = some o) → Q (some (.ref s.heap.objs.size)) { s with heap := h' }) :
  wpAny (model prog w) A (pyNext (.ref z)) Q E s := by
 obtain ⟨hTI, h1, h2, hl1, hl2, ⟨oTO, hto⟩, hz⟩ := st
 have lt : ∀ {c o}, s.heap.get? c = some o → s.heap.objs.size ≠ c := fun e => Nat.ne_of_gt (Heap.lt_size e)
 have n1 : s.heap.objs.size ≠ i1 := let ⟨_, e, _⟩ := h1; lt e
 have n2 : s.heap.objs.size ≠ i2 := let ⟨_, e, _⟩ := h2; lt e
 rcases hz with ⟨hz, a, b, hTO⟩ | ⟨T, f, oT, hz, hT, r1, r2, r3, r4⟩
 ·refine wpAny_pyNext_zip_item D hz hTI hTO h1 h2 hl1 hl2 ex ey fun h' a1 a2 a3 a4 a5 a6 hk => ?_
  exact hQ h' a5 ⟨hk _ _ D.TIz D.TITO D.TIi1 D.TIi2 hTI, a3, a4, hl1.at fun o e => hk _ o D.l1z D.l1TO D.l1i1 D.l1i2 e, hl2.at fun o e => hk _ o D.l2z D.l2TO D.l2i1 D.l2i2 e, ⟨_, a2⟩,
    .inr ⟨s.heap.objs.size, false, _, a1, a5, lt hz, n1, n2, Nat.ne_of_gt hS⟩⟩
   fun c o hc e => hk c o (fun x => hc (by simp [x])) (fun x => hc (by simp [x])) (fun x => hc (by simp [x])) (fun x => hc (by simp [x])) e
 ·refine wpAny_pyNext_zip_item_held D hz hT hTI h1 h2 hl1 hl2 ex ey fun h' a1 a3 a4 a5 a6 hk => ?_
  exact hQ h' a5 ⟨hk _ _ D.TIz D.TIi1 D.TIi2 hTI, a3, a4, hl1.at fun o e => hk _ o D.l1z D.l1i1 D.l1i2 e, hl2.at fun o e => hk _ o D.l2z D.l2i1 D.l2i2 e, ⟨oTO, hk _ _ D.TOz D.TOi1 D.TOi2 hto⟩,
    .inr ⟨T, true, oT, a1, hk _ _ r1 r2 r3 hT, r1, r2, r3, r4⟩⟩
   fun c o hc e => hk c o (fun x => hc (by simp [x])) (fun x => hc (by simp [x])) (fun x => hc (by simp [x])) e
theorem ZSt.done {Q : Option Value → Shared → Prop} (st : ZSt z TI TO i1 i2 l1 l2 S xs ys i s.heap) (D : ZipApart z TI TO i1 i2 l1 l2) (hh : A.handled = none) (hend : xs[i]? = none ∨ ys[i]? = none)
  (hQ : ∀ h', (∀ b o, b ∉ [z, TI, TO, i1, i2] → s.heap.get? b = some o → h'.get? b = some o) → Q none { s with heap := h' }) :
  wpAny (model prog w) A (pyNext (.ref z)) Q E s := by
 obtain ⟨hTI, h1, h2, hl1, hl2, ⟨oTO, hto⟩, hz⟩ := st
 rcases hz with ⟨hz, a, b, hTO⟩ | ⟨T, f, oT, hz, hT, r1, r2, r3, r4⟩
 ·exact wpAny_pyNext_zip_end hh D hz hTI hTO h1 h2 hl1 hl2 hend fun h' hk => hQ h' fun c o hc e => hk c o (fun x => hc (by simp [x])) (fun x => hc (by simp [x])) (fun x => hc (by simp [x])) (fun x => hc (by simp [x])) e
 ·exact wpAny_pyNext_zip_end_held hh D hz hT hTI h1 h2 hl1 hl2 hend fun h' hk => hQ h' fun c o hc e => hk c o (fun x => hc (by simp [x])) (fun x => hc (by simp [x])) (fun x => hc (by simp [x])) e
end
end Z
namespace Z
open PySem PySem.Spec L2
open PyProof.Rows hiding St
end Z
namespace Z
open PySem PySem.Spec L2
open PyProof.Rows hiding St
end Z
namespace Z
open PySem PySem.Spec L2
open PyProof.Rows hiding St
section
variable {X : Cx} {T : List (Addr × Str)} {e a b o : Expr} {es : List Expr} {te ta tb ti : TEp} {t : TAbp} {pos p : Pos} {i : Nat} {x : Str}
end
abbrev TOp' := EP' → (Ow → EP' → Prop) → Prop
section
variable {X : Cx} {T : List (Addr × Str)} {e : Expr} {st : Stmt} {rest : List Stmt} {t1 : TSp} {tf : TOp'} {pos : Pos} {i : Nat}
end
end Z
namespace Z
open PySem PySem.Spec L2
open PyProof.Rows hiding St
section
variable {K : PySem.W.Frag} {O : Addr → Prop} {H : Hp}
theorem RepD.get : ∀ {xs : List (Key × PV)} {vs : List (Key × V)} {j : Nat} {p : Key × PV}, RepD K O H xs vs → xs[j]? = some p → ∃ v, vs[j]? = some (p.1, v)
 | [], _, j, p, h, e => by simp at e
 | (n, x) :: xs, _, 0, p, h, e => by
  obtain ⟨v, us, rfl, r, t⟩ := h.inv
  simp at e
  exact ⟨v, by rw [← e]; rfl⟩
 | (n, x) :: xs, _, j + 1, p, h, e => by
  obtain ⟨v, us, rfl, r, t⟩ := h.inv
  simpa using t.get (by simpa using e)
end
end Z
namespace Z
open PySem PySem.Spec L2
end Z
namespace Z
open PySem PySem.Spec L2
open PyProof.Rows hiding St
end Z
namespace Z
open PySem PySem.Spec L2
open PyProof.Rows hiding St
end Z
namespace Z
open PySem PySem.Spec L2
open PyProof.Rows hiding St
section
variable {X : Cx}
def rEqD0 : R2p := fun x y P => match x, y with
 | .dic kvs, .dic [] => P (.bl kvs.isEmpty)
 | _, _ => False
theorem op_eqD0 (hu : X.A.units < cLine) : OpR X (compareOp .Eq) (fun x y H Q => ∃ a b ks, x = .ref a ∧ y = .ref b ∧ H a = some (.dK ks) ∧ H b = some (.dK []) ∧ Q (.bl ks.isEmpty) H) := by
 intro pins s σ H x y v u Q I rx ry h
 obtain ⟨a, b, ks, rfl, rfl, ea, eb, q⟩ := h
 obtain rfl : v = Value.ref a := rx
 obtain rfl : u = Value.ref b := ry
 obtain ⟨_, ya, va, ra, da⟩ := (show ObjOk X.prog X.w H s.heap a (.dK ks) from I.hok a _ ea)
 obtain ⟨_, yb, vb, rb, db⟩ := (show ObjOk X.prog X.w H s.heap b (.dK []) from I.hok b _ eb)
 have l1 := ra.length
 have l2 := rb.length
 by_cases h0 : ks = []
 ·subst h0
  have hl : va.length = vb.length := by rw [← l1, ← l2]
  exact PySem.W.keq_eq (knd := mixKind X.prog X.w) (r := true) ya yb da db hu (fun _ => hits_all rb ra fun p hp => by cases hp) (fin_bl I q (by simp [hl]))
 ·have hne : va.length ≠ vb.length := fun z => h0 (List.length_eq_zero_iff.mp (by rw [l1, z, ← l2]; rfl))
  refine PySem.W.keq_eq (knd := mixKind X.prog X.w) (r := true) ya yb da db hu (fun z => absurd z (by simpa using hne)) (fin_bl I q ?_)
  cases ks with
  | nil => exact absurd rfl h0
  | cons k ks => simp [hne]
theorem zo_eqD0 (hu : X.A.units < cLine) : OpR X (compareOp .Eq) (r2 X.K rEqD0) := by
 refine OpR.weak (op_eqD0 hu) fun x y H Q h => ?_
 obtain ⟨O, px, py, P, tr, hx, hy, h, k⟩ := h
 unfold rEqD0 at h
 split at h
 ·rename_i kvs
  obtain ⟨a, ws, rfl, n, q, rr⟩ := hx.dic_
  obtain ⟨b, us, rfl, n2, q2, rr2⟩ := hy.dic_
  have e2 : us = [] := List.length_eq_zero_iff.mp (by rw [rr2.len]; rfl)
  subst e2
  refine ⟨a, b, ws, rfl, rfl, q, q2, k.bl ?_⟩
  have : ws.isEmpty = kvs.isEmpty := by
   have := rr.len
   cases ws <;> cases kvs <;> simp at this ⊢
  rw [this]; exact h
 ·cases h
end
end Z
namespace Z
open PySem PySem.Spec L2
open PyProof.Rows hiding St
end Z
namespace Z
open PySem PySem.Spec L2
open PyProof.Rows hiding St
variable {X : Cx}
end Z
namespace Z
open PySem PySem.Spec L2
open PyProof.Rows hiding St
end Z
namespace Z
open PySem PySem.Spec L2
open PyProof.Rows hiding St
end Z
namespace Z
open PySem PySem.Spec L2 GenW
open PyProof.Rows hiding St
end Z
namespace Z
open PySem PySem.Spec L2 GenW
open PyProof.Rows hiding St
end Z
namespace Z
open PySem PySem.Spec L2
open PyProof.Rows hiding St
end Z
namespace Z
open PySem PySem.Spec L2
open PyProof.Rows hiding St
end Z
namespace Z
open PySem PySem.Spec L2
open PyProof.Rows hiding St
end Z
namespace Z
open PySem PySem.Spec L2
open PyProof.Rows hiding St
end Z
namespace Z
open PySem PySem.Spec L2
open PyProof.Rows hiding St
end Z
namespace Z
open PySem PySem.Spec L2
open PyProof.Rows hiding St
abbrev WZ := Addr → List (Str × PV) → EP' → Prop
abbrev WC := Addr → List (Str × PV) → Prop
def XAt (K : PySem.W.Frag) (O : Addr → Prop) (H : Hp) (d : Option Addr) (fs : List (Str × PV)) : Prop :=
 (fs = [] ∧ d = none) ∨ ∃ x ws, d = some x ∧ ¬ O x ∧ H x = some (.xd ws) ∧ RepF K O H fs ws
abbrev WXs := Value → Option Addr → St → Hp → Prop
def XCn (K : PySem.W.Frag) (T : List (Addr × Str)) (W : WXs) (F : Addr → Prop) (σ : St) (η : EP') (H : Hp) (Zw : WZ) : Prop :=
 ∀ C fs η' d σ' H', Zw C fs η' → Ext σ η σ' η' H H' → Rs K T F σ' η' H' → XAt K (Oof F σ' η') H' d fs → W (.ref C) d σ' H'
abbrev TXp := EP' → (PV → EP' → Prop) → WZ → Prop
abbrev TSX := EndsP → WZ → EP' → Prop
def upX (K : PySem.W.Frag) (T : List (Addr × Str)) (W : WXs) (tp : TXp) : TE := fun σ H Q => ∃ F η P Zw, Rs K T F σ η H ∧ tp η P Zw ∧
 (∀ x η' v H', P x η' → Ext σ η σ η' H H' → Rs K T F σ η' H' → Rep K (Oof F σ η') H' x v → Q v H') ∧ XCn K T W F σ η H Zw
def upSX (K : PySem.W.Frag) (T : List (Addr × Str)) (W : WXs) (ts : TSX) : TS := fun D σ H => ∃ F η D' Zw, Rs K T F σ η H ∧ ts D' Zw η ∧
 (∀ η' σ' H', D'.nx η' → Ext σ η σ' η' H H' → Rs K T F σ' η' H' → D.nx σ' H') ∧
 (∀ η' σ' H', D'.bk η' → Ext σ η σ' η' H H' → Rs K T F σ' η' H' → D.bk σ' H') ∧
 (∀ η' σ' H', D'.ct η' → Ext σ η σ' η' H H' → Rs K T F σ' η' H' → D.ct σ' H') ∧
 (∀ x η' σ' v H', D'.rt x η' → Ext σ η σ' η' H H' → Rs K T F σ' η' H' → Rep K (Oof F σ' η') H' x v → D.rt v H') ∧ XCn K T W F σ η H Zw
section
variable {X : Cx} {K : PySem.W.Frag} {T : List (Addr × Str)} {W : WXs} {F : Addr → Prop} {σ σ1 : St} {η η1 : EP'} {H H1 : Hp} {Zw : WZ} {e o : Expr} {es : List Expr} {te : TXp} {t : TAp} {pos : Pos} {st : Stmt} {rest : List Stmt} {t1 t2 : TSX} {u1 u2 : TSp}
theorem XCn.ext (c : XCn K T W F σ η H Zw) (e : Ext σ η σ1 η1 H H1) : XCn K T W F σ1 η1 H1 Zw := fun C fs η' d σ' H' z e2 R x => c C fs η' d σ' H' z (e.trans e2) R x
def tPlX (t : TSp) : TSX := fun D _ η => t D η
theorem zx_pl (h : PS X st (upS X.K T u1)) : PS X st (upSX X.K T W (tPlX u1)) := PS.weak h fun D σ H q => by
 obtain ⟨F, η, D', Zw, R, h, k1, k2, k3, k4, kx⟩ := q
 exact ⟨F, η, D', R, h, k1, k2, k3, k4⟩
theorem zxs_pl {sts : List Stmt} (h : PSs X sts (upS X.K T u1)) : PSs X sts (upSX X.K T W (tPlX u1)) := PSs.weak h fun D σ H q => by
 obtain ⟨F, η, D', Zw, R, h, k1, k2, k3, k4, kx⟩ := q
 exact ⟨F, η, D', R, h, k1, k2, k3, k4⟩
def tSeqX (t u : TSX) : TSX := fun D Zw η => t { D with nx := fun η' => u D Zw η' } Zw η
theorem zxs_cons (h1 : PS X st (upSX X.K T W t1)) (h2 : PSs X rest (upSX X.K T W t2)) : PSs X (st :: rest) (upSX X.K T W (tSeqX t1 t2)) := by
 refine PSs.weak (pss_cons h1 h2) fun D σ H q => ?_
 obtain ⟨F, η, D', Zw, R, h, k1, k2, k3, k4, kx⟩ := q
 refine ⟨F, η, _, Zw, R, h, fun η' σ' H' q e1 R1 => ?_, k2, k3, k4, kx⟩
 exact ⟨F, η', D', Zw, R1, q, fun η'' σ'' H'' q' e2 R2 => k1 _ _ _ q' (e1.trans e2) R2, fun η'' σ'' H'' q' e2 R2 => k2 _ _ _ q' (e1.trans e2) R2, fun η'' σ'' H'' q' e2 R2 => k3 _ _ _ q' (e1.trans e2) R2, fun x η'' σ'' v H'' q' e2 R2 r => k4 _ _ _ _ _ q' (e1.trans e2) R2 r, kx.ext e1⟩
theorem zxs_one (h1 : PS X st (upSX X.K T W t1)) : PSs X [st] (upSX X.K T W t1) := pss_one h1
def tIfX (c : TTp) (t u : TSX) : TSX := fun D Zw η => c η fun b η1 => if b = true then t D Zw η1 else u D Zw η1
theorem zx_if {c : Expr} {a b : List Stmt} {tc : TTp} (hc : PT X c (upB X.K T tc)) (ha : PSs X a (upSX X.K T W t1)) (hb : PSs X b (upSX X.K T W t2)) : PS X (.If c a b pos) (upSX X.K T W (tIfX tc t1 t2)) := by
 refine PS.weak (ps_if hc ha hb) fun D σ H q => ?_
 obtain ⟨F, η, D', Zw, R, h, k1, k2, k3, k4, kx⟩ := q
 refine ⟨F, η, _, R, h, fun x η1 H1 h1 e1 R1 => ?_⟩
 cases x with
 | true =>
  simp only [if_true] at h1 ⊢
  exact ⟨F, η1, D', Zw, R1, h1, fun η'' σ'' H'' q' e2 R2 => k1 _ _ _ q' (e1.trans e2) R2, fun η'' σ'' H'' q' e2 R2 => k2 _ _ _ q' (e1.trans e2) R2, fun η'' σ'' H'' q' e2 R2 => k3 _ _ _ q' (e1.trans e2) R2, fun x η'' σ'' v H'' q' e2 R2 r => k4 _ _ _ _ _ q' (e1.trans e2) R2 r, kx.ext e1⟩
 | false =>
  simp only [Bool.false_eq_true, if_false] at h1 ⊢
  exact ⟨F, η1, D', Zw, R1, h1, fun η'' σ'' H'' q' e2 R2 => k1 _ _ _ q' (e1.trans e2) R2, fun η'' σ'' H'' q' e2 R2 => k2 _ _ _ q' (e1.trans e2) R2, fun η'' σ'' H'' q' e2 R2 => k3 _ _ _ q' (e1.trans e2) R2, fun x η'' σ'' v H'' q' e2 R2 r => k4 _ _ _ _ _ q' (e1.trans e2) R2 r, kx.ext e1⟩
def tExX (te : TXp) : TSX := fun D Zw η => te η (fun _ η1 => D.nx η1) Zw
theorem zx_expr (he : PE X e (upX X.K T W te)) (hs : swapsWith e none pos.line X.env = pure false := by rfl) : PS X (.Expr e pos) (upSX X.K T W (tExX te)) := by
 refine PS.weak (ps_expr he hs) fun D σ H q => ?_
 obtain ⟨F, η, D', Zw, R, h, k1, k2, k3, k4, kx⟩ := q
 exact ⟨F, η, _, Zw, R, h, fun x η1 v H1 h1 e1 R1 _ => k1 _ _ _ h1 e1 R1, kx⟩
def tRetX (te : TXp) : TSX := fun D Zw η => te η D.rt Zw
theorem zx_ret (he : PE X e (upX X.K T W te)) : PS X (.Return (some e) pos) (upSX X.K T W (tRetX te)) := by
 refine PS.weak (ps_ret he) fun D σ H q => ?_
 obtain ⟨F, η, D', Zw, R, h, k1, k2, k3, k4, kx⟩ := q
 exact ⟨F, η, _, Zw, R, h, fun x η1 v H1 h1 e1 R1 r => k4 _ _ _ _ _ h1 e1 R1 r, kx⟩
end
abbrev SpX := List PV → (PV → Prop) → WC → Prop
def upSpX (K : PySem.W.Frag) (T : List (Addr × Str)) (sp : SpX) : Sp := fun vs H Q E => ∃ F args P Zw, Trk F H ∧ LamX.Tabs T H ∧ Reps K F H args vs ∧ sp args P Zw ∧
 (∀ x v H', P x → Gr H H' → LamX.Tabs T H' → Rep K F H' x v → Q v H') ∧ (∀ C fs d H', Zw C fs → Gr H H' → LamX.Tabs T H' → XAt K F H' d fs → E (.ref C) d H')
abbrev SpRX := Ow → List PV → (PV → Ow → Prop) → WC → Prop
def upSpRX (K : PySem.W.Frag) (T : List (Addr × Str)) (sp : SpRX) : Sp := fun vs H Q E => ∃ F a ws o args P Zw, vs = .ref a :: ws ∧ ¬ F a ∧ Trk F H ∧ LamX.Tabs T H ∧ OwAt K (With F a) H a o ∧ Reps K (With F a) H args ws ∧ sp o args P Zw ∧
 (∀ x o' v H', P x o' → GrB a H H' → LamX.Tabs T H' → OwAt K (With F a) H' a o' → Rep K (With F a) H' x v → Q v H') ∧ (∀ C fs d H', Zw C fs → GrB a H H' → LamX.Tabs T H' → XAt K F H' d fs → E (.ref C) d H')
section
variable {K : PySem.W.Frag} {T : List (Addr × Str)} {F : Addr → Prop} {H H' : Hp}
theorem XAt.mono {O O' : Addr → Prop} {d : Option Addr} {fs : List (Str × PV)} (h : ∀ a, O' a → O a) (x : XAt K O H d fs) : XAt K O' H d fs := by
 rcases x with x | ⟨a, ws, e, n, q, r⟩
 ·exact .inl x
 ·exact .inr ⟨a, ws, e, fun z => n (h a z), q, r.mono h⟩
theorem body_spX {N : List Str} {sp : SpX} {ts : TSX} {vs : List V} {Q : VK} {E : XK} (h : upSpX K T sp vs H Q E) (hl : ∀ args P Zw, sp args P Zw → args.length ≤ N.length)
  (rd : ∀ args P Zw, sp args P Zw → ts { nx := fun _ => P .non, rt := fun x _ => P x } (fun C fs _ => Zw C fs) (startP N.length args)) :
  upSX K T (fun cls d _ H' => E cls d H') ts { nx := fun _ H' => Q .non H', rt := Q } (start N vs) H := by
 obtain ⟨F, args, P, Zw, tr, tb, r, hs, k, kx⟩ := h
 have R := rs_start (N := N) tr tb r (hl _ _ _ hs)
 have gr : ∀ {σ' η' H'}, Ext (start N vs) (startP N.length args) σ' η' H H' → Gr H H' := fun e => ⟨fun b o h t => e.keep b o h startP_noown t, e.live⟩
 refine ⟨F, _, _, _, R, rd args P Zw hs, fun η' σ' H' q e R' => ?_, fun _ _ _ q => q.elim, fun _ _ _ q => q.elim, fun x η' σ' v H' q e R' r' => ?_, fun C fs η' d σ' H' z e R' x => ?_⟩
 ·exact k _ _ _ q (gr e) R'.tb rep_non
 ·exact k _ _ _ q (gr e) R'.tb (r'.mono fun b z => .inl z)
 ·exact kx _ _ _ _ z (gr e) R'.tb (x.mono fun b z => .inl z)
theorem body_spRX {nm : Str} {N : List Str} {sp : SpRX} {ts : TSX} {vs : List V} {Q : VK} {E : XK} (h : upSpRX K T sp vs H Q E) (hl : ∀ o args P Zw, sp o args P Zw → args.length ≤ N.length)
  (rd : ∀ o args P Zw, sp o args P Zw → ts { nx := fun η' => ∃ o', η'[0]? = some (Sl.ow o') ∧ P .non o', rt := fun x η' => ∃ o', η'[0]? = some (Sl.ow o') ∧ P x o' } (fun C fs _ => Zw C fs) (startR (N.length + 1) o args)) :
  upSX K T (fun cls d _ H' => E cls d H') ts { nx := fun _ H' => Q .non H', rt := Q } (start (nm :: N) vs) H := by
 obtain ⟨F, a, ws, o, args, P, Zw, rfl, nf, tr, tb, ho, r, hs, k, kx⟩ := h
 obtain ⟨R, own⟩ := rs_startR (x := nm) (N := N) nf tr tb ho r (hl _ _ _ _ hs)
 have fin : ∀ {η' σ' H' x v}, (∃ o', η'[0]? = some (Sl.ow o') ∧ P x o') → Ext (start (nm :: N) (.ref a :: ws)) (startR (N.length + 1) o args) σ' η' H H' → Rs K T F σ' η' H' → Rep K (Oof F σ' η') H' x v → Q v H' := by
  intro η' σ' H' x v q e R' r'
  obtain ⟨o', e0, p⟩ := q
  obtain ⟨p1, q1, q2⟩ := e.fst o' e0
  obtain ⟨b, s1, s2, s3⟩ := R'.ow 0 o' e0
  have hb : b = a := by
   rw [q2] at s1
   have : (start (nm :: N) (V.ref a :: ws))[0]? = some (some (V.ref a)) := by unfold L2.start; simp
   rw [this] at s1; cases s1; rfl
  subst hb
  have m : ∀ c, With F b c → Oof F σ' η' c := fun c z => z.elim .inl fun z => .inr (by rw [z]; exact ⟨0, o', s1, e0⟩)
  exact k x o' v H' p ⟨fun c u n h t => e.keep c u h (fun z => n (own c z)) t, e.live⟩ R'.tb (s2.mono m) (r'.mono m)
 exact ⟨F, _, _, _, R, rd o args P Zw hs, fun η' σ' H' q e R' => fin q e R' rep_non, fun _ _ _ q => q.elim, fun _ _ _ q => q.elim, fun x η' σ' v H' q e R' r' => fin q e R' r',
  fun C fs η' d σ' H' z e R' x => kx _ _ _ _ z ⟨fun c u n h t => e.keep c u h (fun z => n (own c z)) t, e.live⟩ R'.tb (x.mono fun b z => .inl z)⟩
theorem len_spX {ps : List Str} {sp : SpX} (hl : ∀ args P Zw, sp args P Zw → args.length = ps.length) : ∀ vs H Q E, upSpX K T sp vs H Q E → vs.length = ps.length := fun vs H Q E h => by
 obtain ⟨F, args, P, Zw, _, _, r, hs, _⟩ := h
 rw [r.len, hl _ _ _ hs]
theorem len_spRX {p : Str} {ps : List Str} {sp : SpRX} (hl : ∀ o args P Zw, sp o args P Zw → args.length = ps.length) : ∀ vs H Q E, upSpRX K T sp vs H Q E → vs.length = (p :: ps).length := fun vs H Q E h => by
 obtain ⟨F, a, ws, o, args, P, Zw, rfl, _, _, _, _, r, hs, _⟩ := h
 rw [List.length_cons, r.len, hl _ _ _ _ hs]; rfl
end
end Z
namespace L2N
open PySem PySem.Spec PyProof.Rows L2
theorem takes0 {X : Cx} : L2N.Takes X (fun _ _ _ _ => False) := fun _ _ x => by
 obtain ⟨_, _, _, _, _, _, _, _, _, _, _, _, _, _, _, _, z⟩ := x
 exact z.elim
end L2N
namespace Z
open PySem PySem.Spec L2
open PyProof.Rows hiding St
section
variable {P : Program} {w : World} {K : PySem.W.Frag} {mg : Str → Option Value} {base : Heap} {T : List (Addr × Str)}
theorem okXP {x qual : Str} {st : Stmt} {f : Addr} {fd : FuncData} {N ps : List Str} {k : Nat} {sp : SpX} (Fn : Fun K x qual st f fd) (S : FnScope N ps (defScope st)) (hl : ∀ args P Zw, sp args P Zw → args.length = ps.length) (hn : ps.length ≤ N.length)
  (hbody : ∀ (cdv : Value) (A : Around) (outer : List Env) (s : Shared) (H : Hp) (E : XK), Room k (A.deeper (envOfC qual (defScope st) s.heap.objs.size f cdv)) → L2N.Takes (cxOf (L2N.CX P w) P w K mg base N qual (defScope st) f cdv A outer s H E) (fun cls d _ H' => E cls d H') →
   PassesOwn (model P w) (cxOf (L2N.CX P w) P w K mg base N qual (defScope st) f cdv A outer s H E).A (cxOf (L2N.CX P w) P w K mg base N qual (defScope st) f cdv A outer s H E).env (cxOf (L2N.CX P w) P w K mg base N qual (defScope st) f cdv A outer s H E).xe →
   ∃ ts, PSs (cxOf (L2N.CX P w) P w K mg base N qual (defScope st) f cdv A outer s H E) (defBody st) (upSX K T (fun cls d _ H' => E cls d H') ts) ∧
    ∀ args P Zw, sp args P Zw → ts { nx := fun _ => P .non, rt := fun x _ => P x } (fun C fs _ => Zw C fs) (startP N.length args)) :
  FnOk P w K mg base (L2N.CX P w) (k + 1) f fd ps (upSpX K T sp) := by
 obtain ⟨oc, od, kV, doc, pm, an, cdv, ct, osl, rfl, lk, hcd⟩ := Fn.ex
 refine fn_of lk hcd S (len_spX hl) fun A outer s H vs Q E hr h => ?_
 obtain ⟨ts, d, rd⟩ := hbody cdv A outer s H E hr (L2N.takes_of rfl rfl rfl rfl) PassesOwn.leaving
 exact ⟨_, d, body_spX h (fun args P Zw hs => by rw [hl _ _ _ hs]; exact hn) rd⟩
theorem okXRX {x qual : Str} {st : Stmt} {f c : Addr} {fd : FuncData} {dvs : List V} {nm : Str} {N ps : List Str} {k : Nat} {sp : SpRX} (Fn : FunX K x qual st dvs c f fd) (S : FnScope (nm :: N) (nm :: ps) (defScope st)) (hl : ∀ o args P Zw, sp o args P Zw → args.length = ps.length) (hn : ps.length ≤ N.length)
  (hbody : ∀ (A : Around) (outer : List Env) (s : Shared) (H : Hp) (E : XK), Room k (A.deeper (envOfC qual (defScope st) s.heap.objs.size f (.ref c))) → L2N.Takes (cxOf (L2N.CX P w) P w K mg base (nm :: N) qual (defScope st) f (.ref c) A outer s H E) (fun cls d _ H' => E cls d H') →
   PassesOwn (model P w) (cxOf (L2N.CX P w) P w K mg base (nm :: N) qual (defScope st) f (.ref c) A outer s H E).A (cxOf (L2N.CX P w) P w K mg base (nm :: N) qual (defScope st) f (.ref c) A outer s H E).env (cxOf (L2N.CX P w) P w K mg base (nm :: N) qual (defScope st) f (.ref c) A outer s H E).xe →
   ∃ ts, PSs (cxOf (L2N.CX P w) P w K mg base (nm :: N) qual (defScope st) f (.ref c) A outer s H E) (defBody st) (upSX K T (fun cls d _ H' => E cls d H') ts) ∧
    ∀ o args P Zw, sp o args P Zw → ts { nx := fun η' => ∃ o', η'[0]? = some (Sl.ow o') ∧ P .non o', rt := fun x η' => ∃ o', η'[0]? = some (Sl.ow o') ∧ P x o' } (fun C fs _ => Zw C fs) (startR (N.length + 1) o args)) :
  FnOk P w K mg base (L2N.CX P w) (k + 1) f fd (nm :: ps) (upSpRX K T sp) := by
 obtain ⟨oc, od, dV, kV, doc, pm, an, ct, osl, rfl, lk, hcd, _⟩ := Fn.ex
 refine fn_of lk hcd S (len_spRX hl) fun A outer s H vs Q E hr h => ?_
 obtain ⟨ts, d, rd⟩ := hbody A outer s H E hr (L2N.takes_of rfl rfl rfl rfl) PassesOwn.leaving
 exact ⟨_, d, body_spRX h (fun o args P Zw hs => by rw [hl _ _ _ _ hs]; exact hn) rd⟩
end
section
variable {X : Cx} {T : List (Addr × Str)} {W : WXs} {a b e o : Expr} {es : List Expr} {te ta tb : TEp} {t : TAp} {tf : TFp} {pos p apos : Pos} {k : Nat} {f C : Addr} {fd : FuncData} {ps : List Str} {sp : SpX} {sr : SpRX} {x m : Str}
def tCallX (sp : SpX) (dps : List PV) (t : TAp) : TXp := fun η P Zw => t η fun args η1 => sp (args ++ dps) (fun z => P z η1) fun C fs => Zw C fs η1
theorem call_upX {K : PySem.W.Frag} {σ : St} {H : Hp} {Q : VK} {dps : List PV} {dvs : List V} (hd : ∀ O H, Reps K O H dps dvs) (q : upX K T W (tCallX sp dps t) σ H Q) : tCallSD (upSpX K T sp) dvs (WE W) (upA K T t) σ H Q := by
 obtain ⟨F, η, P, Zw, R, h, k, kx⟩ := q
 refine ⟨F, η, _, R, h, fun args η1 vs H1 h1 e1 R1 r1 => ?_⟩
 exact ⟨Oof F σ η1, _, _, _, R1.trO, R1.tb, r1.app (hd _ _), h1, fun z v H2 pz g tb rz => k z η1 v H2 pz (e1.trans g.ext) (R1.gr g tb) rz, fun C fs d H2 z g tb x => kx C fs η1 d σ H2 z (e1.trans g.ext) (R1.gr g tb) x⟩
theorem zx_call (Fn : FnOk X.prog X.w X.K X.mg X.base (L2N.CX X.prog X.w) k f fd ps (upSpX X.K T sp)) (tk : L2N.Takes X W) (hr : Room k X.A) (hg : Gl X x) (hm : X.mg x = some (.ref f)) (hk : PySem.W.keepIn X.K (.ref f) = true) {dvs : List V} {ds : List Value} {dps : List PV} (hb : Binds X.K fd ps ds) (hd : Vals dvs ds) (hp : ∀ O H, Reps X.K O H dps dvs)
  (ha : PA X (e :: es) (upA X.K T t)) (hdb : (x == ("__debug__" : Str)) = false := by decide) (he : starEach (e :: es) X.env = (false, eval e X.env) :: starEach es X.env := by rfl) (hpl : (backTo pos (starEach es X.env)).any (·.1) = false := by rfl) :
  PE X (.Call (.Name x p) (e :: es) [] pos) (upX X.K T W (tCallX sp dps t)) :=
 PE.weak (pe_callSD Fn hr hg hm hk hb hd (L2N.passAt tk) ha hdb he hpl) fun σ H Q q => call_upX hp q
def tNoX (te : TXp) : TEp := fun η P => te η P fun _ _ _ => False
theorem z_nox {te : TXp} (h : PE X e (upX X.K T (fun _ _ _ _ => False) te)) : PE X e (up X.K T (tNoX te)) := PE.weak h fun σ H Q q => by
 obtain ⟨F, η, P, R, h, k⟩ := q
 exact ⟨F, η, P, _, R, h, k, fun C fs η' d σ' H' z _ _ _ => z⟩
theorem run_makeSD {pins : List (Addr × Obj)} {σ : St} {H : Hp} {s : Shared} {Q : VK} {us : List Value} {vs dvs : List V} {ds : List Value} {S : Sp} {E : XK} (M : Mk X.K C f) (Fn : FnOk X.prog X.w X.K X.mg X.base (L2N.CX X.prog X.w) k f fd ps S) (hr : Room (k + 1) X.A) (hb : Binds X.K fd ps ds) (hd : Vals dvs ds)
  (hx : ∀ (H : Hp) (s : Shared) (e : Value) (s' : Shared), Inv X pins σ H s → L2N.CX X.prog X.w X.stack H s E e s' → X.xe e s') (I : Inv X pins σ H s) (r : Vals vs us)
  (h : ∀ x dx, H x = none → H dx = none → dx ≠ x → S (.ref x :: (vs ++ dvs)) (upd (upd H dx (.own x)) x (.ins C dx [])) (fun v H2 => v = .non ∧ Q (.ref x) H2) E) :
  wpAny (model X.prog X.w) X.A (call (.ref C) us) (EP X pins σ Q) X.xe s := by
 have hq := h (s.heap.objs.size + 1) s.heap.objs.size (I.hok.fresh (Nat.le_succ _)) (I.hok.fresh (Nat.le_refl _)) (Nat.ne_of_lt (Nat.lt_succ_self _))
 have I2 := Inv.made (C := C) I
 have r2 : Vals (V.ref (s.heap.objs.size + 1) :: (vs ++ dvs)) (Value.ref (s.heap.objs.size + 1) :: (us ++ ds)) := .cons rfl (r.append hd)
 have hl : (Value.ref (s.heap.objs.size + 1) :: us ++ ds).length = ps.length := by
  have e := r2.length
  rw [Fn.len _ _ _ _ hq] at e
  exact e.symm
 refine wpAny_call (make_map (f := f) I.kIn M.makes M.init (beq_iff_eq.mp M.fn) (codeAny_mono (Fn.run _ X.stack _ _ ⟨Value.ref (s.heap.objs.size + 1) :: us, []⟩ (Value.ref (s.heap.objs.size + 1) :: (us ++ ds)) _ _ E (hr.make C us [])
  (I2.env0.make C us []) (hb _ (Value.ref (s.heap.objs.size + 1) :: us) I2.kIn hl) r2 hq) fun r s' hq' => ?_))
 cases r with
 | error e => exact hx _ _ e s' I2 hq'
 | ok fl =>
  cases fl with
  | ret u =>
   obtain ⟨v, H', I3, rv, ev, q3⟩ := I2.after hq'
   subst ev
   exact ⟨rv, ⟨V.ref (s.heap.objs.size + 1), H', I3, rfl, q3⟩⟩
  | next => exact False.elim hq'
  | brk => exact False.elim hq'
  | cont => exact False.elim hq'
def tMakeSD (C : Addr) (S : Sp) (dvs : List V) (E : St → XK) (t : TA) : TE := fun σ H Q => t σ H fun vs H1 => ∀ x dx, H1 x = none → H1 dx = none → dx ≠ x → S (.ref x :: (vs ++ dvs)) (upd (upd H1 dx (.own x)) x (.ins C dx [])) (fun v H2 => v = .non ∧ Q (.ref x) H2) (E σ)
theorem pe_makeSD {t : TA} {dvs : List V} {ds : List Value} {S : Sp} {E : St → XK} (M : Mk X.K C f) (Fn : FnOk X.prog X.w X.K X.mg X.base (L2N.CX X.prog X.w) k f fd ps S) (hr : Room (k + 1) X.A) (hg : Gl X x) (hm : X.mg x = some (.ref C)) (hb : Binds X.K fd ps ds) (hd : Vals dvs ds) (hx : ∀ σ, PassesAt (L2N.CX X.prog X.w) X σ (E σ))
  (ha : PA X (e :: es) t) (hdb : (x == ("__debug__" : Str)) = false := by decide) (he : starEach (e :: es) X.env = (false, eval e X.env) :: starEach es X.env := by rfl) (hpl : (backTo pos (starEach es X.env)).any (·.1) = false := by rfl) :
  PE X (.Call (.Name x p) (e :: es) [] pos) (tMakeSD C S dvs E t) := by
 refine ⟨fun pins s σ H Q I h => ?_⟩
 refine wpAny_Call_Name_kw (ld_glob I hg hm ?_ hdb)
 refine PySem.W.callWith_K (h₀ := X.base) I.ok.mod.kin M.kp (thn (ha.run pos pins s σ H _ I h) fun us s1 ⟨vs, H1, I1, r, q⟩ => ⟨I1.kIn, ?_⟩) he hpl
 exact run_makeSD M Fn hr hb hd (fun H s e s' J c => hx σ pins H s e s' J c) I1 r q
def tNewX (C : Addr) (sr : SpRX) (dps : List PV) (t : TAp) : TXp := fun η P Zw => t η fun args η1 => sr (.o C []) (args ++ dps) (fun r o' => r = .non ∧ ∃ fs, o' = .o C fs ∧ P (.ins C fs) η1) fun C' fs => Zw C' fs η1
theorem zx_new {dvs : List V} {ds : List Value} {dps : List PV} (M : Mk X.K C f) (Fn : FnOk X.prog X.w X.K X.mg X.base (L2N.CX X.prog X.w) k f fd ps (upSpRX X.K T sr)) (tk : L2N.Takes X W) (hr : Room (k + 1) X.A) (hg : Gl X x) (hm : X.mg x = some (.ref C)) (hb : Binds X.K fd ps ds) (hd : Vals dvs ds) (hp : ∀ O H, Reps X.K O H dps dvs)
  (ha : PA X (e :: es) (upA X.K T t)) (hdb : (x == ("__debug__" : Str)) = false := by decide) (he : starEach (e :: es) X.env = (false, eval e X.env) :: starEach es X.env := by rfl) (hpl : (backTo pos (starEach es X.env)).any (·.1) = false := by rfl) :
  PE X (.Call (.Name x p) (e :: es) [] pos) (upX X.K T W (tNewX C sr dps t)) := by
 refine PE.weak (pe_makeSD M Fn hr hg hm hb hd (L2N.passAt tk) ha hdb he hpl) fun σ H Q q => ?_
 obtain ⟨F, η, P, Zw, R, h, k, kx⟩ := q
 refine ⟨F, η, _, R, h, fun args η1 vs H1 h1 e1 R1 r1 x dx nx ndx nex => ?_⟩
 have s1 : Same H1 (upd (upd H1 dx (.own x)) x (.ins C dx [])) := fun b u hb => by
  rw [upd_ne (ne_of_none hb nx), upd_ne (ne_of_none hb ndx)]; exact hb
 have nO : ¬ Oof F σ η1 x := fun z => R1.trO x z (Nw.of nx)
 have c1 : Car (Oof F σ η1) (With (Oof F σ η1) x) H1 (upd (upd H1 dx (.own x)) x (.ins C dx [])) := fun b u n hb _ => ⟨s1 b u hb, fun z => z.elim n (ne_of_none hb nx)⟩
 have gr : ∀ {H2 : Hp}, GrB x (upd (upd H1 dx (.own x)) x (.ins C dx [])) H2 → Gr H1 H2 := fun g => ⟨fun b u hb t => g.keep b u (ne_of_none hb nx) (s1 b u hb) t, fun b hb => g.live b fun q => hb fun o z => q o (s1 b o z)⟩
 refine ⟨Oof F σ η1, x, _, .o C [], _, _, _, rfl, nO, R1.trO.same s1, R1.tb.ext s1, ⟨dx, [], upd_same, by unfold RepF; rfl⟩, (r1.car c1).app (hp _ _), h1, fun z o' v H2 pz g tb ho' rz => ?_, fun C' fs d H2 z g tb xa => ?_⟩
 ·obtain ⟨rfl, fs, rfl, pz⟩ := pz
  obtain ⟨dx', ws, hx, rf⟩ := ho'
  refine ⟨rz.non_, k _ η1 _ H2 pz (e1.trans (gr g).ext) (R1.gr (gr g) tb) ?_⟩
  unfold Rep
  exact ⟨x, dx', ws, rfl, nO, hx, rf.mono fun b z => .inl z⟩
 ·exact kx C' fs η1 d σ H2 z (e1.trans (gr g).ext) (R1.gr (gr g) tb) xa
end
section
variable {X : Cx} {T : List (Addr × Str)} {W : WXs} {e : Expr} {te : TEp} {pos p pos' : Pos} {C fI cc cda : Addr} {B i newId : String} {bmB : List Value} {fld x : Str} {fd : FuncData}
def tRaiseX (C : Addr) (fld : Str) (te : TEp) : TSX := fun _ Zw η => te η fun y η1 => Zw C [(fld, y)] η1
structure XOk (P : Program) (K : PySem.W.Frag) (mg : Str → Option Value) (x : Str) (C : Addr) (fld : Str) : Prop where
 ex : ∃ (fI cc cda : Addr) (B i newId : String) (bmB : List Value) (fd : FuncData), ZX.BaseX B i newId bmB ∧ ZX.XInit P K C fI cc cda fld B i newId bmB fd ∧ ZX.XCl K C fI
 g : mg x = some (.ref C)
theorem zx_raise (Y : XOk X.prog X.K X.mg x C fld) (hsup : X.mg "super" = none) (tk : L2N.Takes X W) (hc : X.calm = true) (hr : L2H.RoomH 1 X.A) (hg : Gl X x) (ha : PE X e (up X.K T te))
  (hdb : (x == ("__debug__" : Str)) = false := by decide) (he : starEach [e] X.env = (false, eval e X.env) :: starEach [] X.env := by rfl) (hpl : (backTo pos' (starEach [] X.env)).any (·.1) = false := by rfl) :
  PS X (.Raise (some (.Call (.Name x p) [e] [] pos')) none pos) (upSX X.K T W (tRaiseX C fld te)) := by
 obtain ⟨fI, cc, cda, B, i, newId, bmB, fd, BX, YI, YC⟩ := Y.ex
 refine PS.weak (L2N.ps_raise hc tk (ZX.pmk_X BX YI YC hsup hr hg Y.g (za_cons ha za_nil he) hdb he hpl)) fun D σ H q => ?_
 obtain ⟨F, η, D', Zw, R, h, k1, k2, k3, k4, kx⟩ := q
 refine ⟨F, η, fun ys η1 => ∃ y, ys = [y] ∧ Zw C [(fld, y)] η1, R, ?_, fun ys η1 vs H1 h1 e1 R1 r1 => ?_⟩
 ·refine Eq.mp ?_ (show te η fun y η1 => Zw C [(fld, y)] η1 from h)
  unfold tConsP tNilP
  congr 1
  funext y η1
  simp
 ·obtain ⟨y, rfl, hz⟩ := h1
  obtain ⟨v, rfl, r⟩ := r1.one
  refine ⟨v, rfl, fun d nd => ?_⟩
  have sm : Same H1 (upd H1 d (.xd [(fld, v)])) := Same.new nd
  refine kx C [(fld, y)] η1 (some d) σ _ hz (e1.trans (.same sm)) (R1.same sm) (.inr ⟨d, _, rfl, R1.trO.fresh nd, upd_same, ?_⟩)
  unfold RepF
  exact ⟨v, [], rfl, r.car (Car.same sm), by unfold RepF; rfl⟩
end
end Z
namespace L2N
open PySem PySem.Spec PyProof.Rows L2
inductive NamesL (X : Cx) : List Expr → List Value → Prop
 | nil : NamesL X [] []
 | cons {x : Str} {p : Pos} {c : Value} {es : List Expr} {cs : List Value} : Names X x c → NamesL X es cs → NamesL X (.Name x p :: es) (c :: cs)
def TupM (P : Program) (w : World) (K : PySem.W.Frag) (cs : List Value) : Prop := ∀ {cls : Value} {tp e : Addr} {b : Bool} {h : Heap}, K.In h → PySem.W.Looks (model P w) h (typeOf (.ref e)) cls →
 h.get? tp = some { cls := .type "tuple", data := .seq cs.toArray } → PySem.W.exmAny K cls cs = some b → PySem.W.Looks (model P w) h (excMatches (.ref e) (.ref tp)) b
theorem tupM2 {P : Program} {w : World} {K : PySem.W.Frag} {c1 c2 : Value} : TupM P w K [c1, c2] := fun X LT hp hx => PySem.W.exm_tup2 X LT hp hx
theorem tupM3 {P : Program} {w : World} {K : PySem.W.Frag} {c1 c2 c3 : Value} : TupM P w K [c1, c2, c3] := fun X LT hp hx => PySem.W.exm_tup3 X LT hp hx
theorem flying_keep {B h h' : Heap} {l : List Env} {a : Addr} {Z : Obj → Prop} (k : ∀ b o, h.get? b = some o → h'.get? b = some o) (x : HandSPX.FlyingZ B l a Z h) : HandSPX.FlyingZ B l a Z h' := by
 obtain ⟨x1, x2, x3, oe, vs, T, oT, ts, e1, e2, e3, e4, e5, e6, e7, e8⟩ := x
 exact ⟨fun b o e => k b o (x1 b o e), x2, x3.of_keeps fun b o e _ => ⟨o, k b o e, rfl⟩, oe, vs, T, oT, ts, k _ _ e1, e2, e3, e4, e5, e6, k _ _ e7, e8⟩
theorem evalNames {X : Cx} {a : Addr} {q : Addr × Obj} {pn pins : List (Addr × Obj)} {σ : St} {H : Hp} {s : Shared} {np : Pos} {E : Value → Shared → Prop} (I : Inv (X.suite a (q :: pn)) pins σ H s) : ∀ {es : List Expr} {cs : List Value}, NamesL X es cs → ∀ {Q : List Value → Shared → Prop}, Q cs s →
  wpAny (model X.prog X.w) (X.A.mark (some (.ref a))) (spliced (backTo np (starEach es X.env))) Q E s
 | _, _, .nil, Q, q => spliced_none q
 | _, _, .cons (x := x) (p := p) (c := c) hc r, Q, qq => by
  refine spliced_more ?_
  obtain ⟨hg, hdbg, hm | ⟨hm, hv, hnn⟩⟩ := hc
  ·exact ld_glob (X := X.suite a (q :: pn)) I hg hm (evalNames I r qq) hdbg
  ·exact ld_blt (X := X.suite a (q :: pn)) I hg hm hv (evalNames I r qq) hnn hdbg
def wTup (K : PySem.W.Frag) (cs : List Value) (i : Nat) (ts : Addr → Value → Option Addr → TS) (Wout : WX) (D : Ends) : WX := fun cls d σ H =>
 ∃ b, PySem.W.exmAny K cls cs = some b ∧ (b = true → ∀ a, H a = none → ts a cls d { nx := fun σ' H' => D.nx (σ'.set i none) H', rt := D.rt, bk := fun σ' H' => D.bk (σ'.set i none) H', ct := fun σ' H' => D.ct (σ'.set i none) H' } (σ.set i (some (.ref a))) H) ∧
  (b = false → Wout cls d σ H)
def wTupO (K : PySem.W.Frag) (cs : List Value) (ts : Addr → Value → Option Addr → TS) (Wout : WX) (D : Ends) : WX := fun cls d σ H =>
 ∃ b, PySem.W.exmAny K cls cs = some b ∧ (b = true → ∀ a, H a = none → ts a cls d D σ H) ∧ (b = false → Wout cls d σ H)
section
variable {X : Cx} {n : Str} {cs : List Value} {elts : List Expr} {ek : Nat} {i : Nat} {body suite : List Stmt} {b₀ : Stmt} {np pos pos' : Pos} {tb : WX → TS} {ts : Addr → Value → Option Addr → TS} {Wout : WX}
theorem ps_try_tup_as (hs : X.stack = X.env :: X.outer) (hf : X.env.frame = some X.env.locals) (hN : X.N.Nodup) (hi : X.N[i]? = some n) (hln : X.env.kindOf n = some .local) (hc : NamesL X elts cs) (hm : TupM X.prog X.w X.K cs) (hl : cs.length ≤ 1000) (tk : Takes X Wout)
  (hb : ∀ (W : WX) (pn : List (Addr × Obj)) (xe : Value → Shared → Prop), Takes (X.tr pn xe) W → PassesOwn (model X.prog X.w) X.A X.env xe → PSs (X.tr pn xe) body (tb W))
  (hsu : ∀ (a : Addr) (oe : Obj) (cls : Value) (d : Option Addr) (pn : List (Addr × Obj)), Zn cls d oe → (∃ vs, oe.data = .fields vs) → PSs (X.suite a ((a, oe) :: pn)) (b₀ :: suite) (ts a cls d)) :
  PS X (.Try body [.ExceptHandler (some (.Tuple elts ek np)) (some n) (b₀ :: suite) pos'] [] [] pos) (fun D σ H => tb (wTup X.K cs i ts Wout D) D σ H) := by
 refine ⟨fun pins s σ H D I h => ?_⟩
 have ok := I.ok
 have hfr : X.A.frames = some (X.env :: X.outer) := by rw [ok.frames, hs]
 have hloc : Loc X.env.scope n := .inl hln
 refine wpAny_Try_except ?_
 refine wpAny_mono ((hb (wTup X.K cs i ts Wout D) (X.pn ++ pins) (fun e s₁ => wpAny (model X.prog X.w) X.A (noteFrame e X.env) (fun _ s₂ => wpAny (model X.prog X.w) X.A (setFlight e none) (fun _ s₃ =>
  wpAny (model X.prog X.w) X.A (handleBy e X.env [.ExceptHandler (some (.Tuple elts ek np)) (some n) (b₀ :: suite) pos']) (SP X pins D) X.xe s₃) X.xe s₂) X.xe s₁) (fun u s' xx => ?_) PassesOwn.looking).run [] s σ H D (I.toTry _) h) (fun f s1 hsp => ?_) (fun e s1 he => he)
 ·-- the catch
  obtain ⟨a, B, sI, pins', σ', H', cls, d, rfl, J', nb, up, sky, na, os, ag, b, hb1, hyes, hno⟩ := xx
  have J : Inv X pins σ' H' sI := J'.ofTry ok
  have sky' : Sky B (X.env :: X.outer) a (Zn cls d) X.env.locals s'.heap := by rw [← hs]; exact sky
  show wpAny (model X.prog X.w) X.A (noteFrame (.ref a) X.env) _ _ _
  refine Sky.land Zn.steady hfr hf sky' fun h3' fl3' up3' => ?_
  have J3' : Inv X pins σ' H' { s' with heap := h3' } := J.landed nb fl3'.1 (up.trans up3') os ag
  obtain ⟨oe3, vs3, he3', hz3, hd3⟩ := fl3'.there
  have notFr : ∀ {h : Heap} {o : Obj} {vs : Array Value}, h.FunFrames B (X.env :: X.outer) → h.get? a = some o → o.data = .fields vs → a ∉ frs (X.env :: X.outer) := fun {h o vs} ff e dd hm => by
   obtain ⟨_, o', e', hnf⟩ := ff.mem hm
   rw [e] at e'; cases e'
   exact hnf _ dd
  have nfr := notFr fl3'.2.2.1 he3' hd3
  have nL : a ≠ X.env.locals := fun z => nfr (List.mem_filterMap.mpr ⟨X.env, List.mem_cons_self, by rw [hf, z]⟩)
  have nF : a ∉ X.fs := fun hm => by
   obtain ⟨e, he, q⟩ := List.mem_filterMap.mp hm
   exact nfr (List.mem_filterMap.mpr ⟨e, List.mem_cons_of_mem _ he, q⟩)
  have S3' := J3'.suite he3' hd3 na nL nF
  refine wpAny_handleBy_cons (codeAny_handlers_test ?_) (by intro q; cases q)
  refine Tuple_ (evalNames S3' hc ?_)
  refine wpAny_newObj_type ?_ (by show cs.toArray.size ≤ sizeLine; rw [List.size_toArray, sizeLine_eq]; omega)
  let h3 : Heap := h3'.push { cls := .type "tuple", dict := none, data := .seq cs.toArray }
  have kp : ∀ b o, h3'.get? b = some o → h3.get? b = some o := fun b o e => Heap.get?_push_of_some _ e
  have fl3 : HandSPX.FlyingZ B (X.env :: X.outer) a (Zn cls d) h3 := flying_keep kp fl3'
  have up3 : s'.heap.UpToSlots h3 := up3'.trans (Heap.UpToSlots.of_keeps kp)
  have J3 : Inv X pins σ' H' { s' with heap := h3 } := J.landed nb fl3.1 (up.trans up3) os ag
  have he3 := kp _ _ he3'
  have LT : PySem.W.Looks (model X.prog X.w) h3 (typeOf (.ref a)) cls := fun A Q E s k q => wpAny_typeOf_ref (k _ _ he3) (by rw [hz3.1]; exact q)
  have LM := hm J3.kIn LT (Heap.get?_push_size _ rfl) hb1
  show wpAny _ _ _ _ _ { s' with heap := h3 }
  refine LM.here ?_
  cases b with
  | true =>
   refine codeAny_handlers_suite_as ?_
   refine HandSPX.lands_againZ fl3 fun h4 fl4 up4 => ?_
   have J4 : Inv X pins σ' H' { s' with heap := h4 } := J.landed nb fl4.1 ((up.trans up3).trans up4) os ag
   obtain ⟨oe4, vs4, he4, hz4, hd4⟩ := fl4.there
   have S4 := J4.suite he4 hd4 na nL nF
   refine store_ok (X := X.suite a ((a, oe4) :: (X.pn ++ pins))) (v := .ref a) S4 hN hi hloc rfl (fun s5 S5 => ?_) (.inr hln)
   refine wpAny_mono ((hsu a oe4 cls d (X.pn ++ pins) hz4 ⟨_, hd4⟩).run [] s5 _ H' _ S5 (hyes rfl a na)) (fun f s6 hsp => ?_) (fun _ _ z => False.elim z)
   have end_ : ∀ {σ6 : St} {H6 : Hp} {Q : Shared → Prop}, Inv (X.suite a ((a, oe4) :: (X.pn ++ pins))) [] σ6 H6 s6 → (∀ s7, Inv X pins (σ6.set i none) H6 s7 → Q s7) →
     wpAny (model X.prog X.w) X.A (do bindName X.env n .none; unbindBehindTheSuite X.env n pos') (fun _ s7 => Q s7) X.xe s6 := fun {σ6 H6 Q} S6 hq => gone_ok (S6.unsuite ok) hN hi hln hq
   cases f with
   | next =>
    obtain ⟨σ6, H6, S6, q6⟩ := hsp
    exact end_ S6 fun s7 J7 => ⟨_, _, J7, q6⟩
   | brk =>
    obtain ⟨σ6, H6, S6, q6⟩ := hsp
    exact end_ S6 fun s7 J7 => ⟨_, _, J7, q6⟩
   | cont =>
    obtain ⟨σ6, H6, S6, q6⟩ := hsp
    exact end_ S6 fun s7 J7 => ⟨_, _, J7, q6⟩
   | ret u =>
    obtain ⟨v6, σ6, H6, S6, r6, q6⟩ := hsp
    exact end_ S6 fun s7 J7 => ⟨_, _, _, J7, r6, q6⟩
  | false =>
   show wpAny _ X.A (handleBy (.ref a) X.env []) _ _ _
   refine wpAny_handleBy_nil ?_
   obtain ⟨k1, k2, k3, oe, vs, T, oT, ts', he, hz, hd, h1, hr⟩ := id fl3
   unfold PySem.passOn
   refine wpAny_bind (wpAny_field he hd h1 ?_)
   rw [if_neg (show ¬ ((Value.ref T == Value.none) = true) from by simp)]
   have fin : wpAny (model X.prog X.w) X.A (setFlight (.ref a) X.env.frame) (fun _ s4 => wpAny (model X.prog X.w) X.A (throw (.ref a) : Sem Flow) (SP X pins D) X.xe s4) X.xe { s' with heap := h3 } := by
    rw [hf]
    refine HandSPX.setFlight_upZ fl3 fun h4 hh4 up4 => wpAny_throw (tk _ _ ?_)
    exact ⟨a, B, sI, pins, σ', H', cls, d, rfl, J, nb, (up.trans up3).trans up4, .inr (.inr (by rw [hs]; exact hh4)), na, os, ag, hno rfl⟩
   first
    | exact wpAny_bind (wpAny_pure (wpAny_bind fin))
    | exact wpAny_bind fin
 ·cases f with
  | next =>
   obtain ⟨σ', H', J', q⟩ := hsp
   exact wpAny_execs_nil ⟨σ', H', J'.ofTry ok, q⟩
  | brk =>
   obtain ⟨σ', H', J', q⟩ := hsp
   exact ⟨σ', H', J'.ofTry ok, q⟩
  | cont =>
   obtain ⟨σ', H', J', q⟩ := hsp
   exact ⟨σ', H', J'.ofTry ok, q⟩
  | ret u =>
   obtain ⟨v, σ', H', J', r, q⟩ := hsp
   exact ⟨v, σ', H', J'.ofTry ok, r, q⟩
end
end L2N
namespace Z
open PySem PySem.Spec L2
open PyProof.Rows hiding St
section
variable {X : Cx} {T : List (Addr × Str)} {W : WXs} {e : Expr} {te ta : TEp} {t : TAp} {pos pos' np : Pos} {b₀ : Stmt} {body suite : List Stmt} {tb : TSX} {i ek : Nat} {n : Str} {cs : List Value} {elts : List Expr}
theorem XAt.rep {K : PySem.W.Frag} {O : Addr → Prop} {H : Hp} {d : Option Addr} {fs : List (Str × PV)} (x : XAt K O H d fs) (a : Addr) : Rep K O H (.exn a d fs) (.ref a) := by
 unfold Rep
 rcases x with ⟨rfl, rfl⟩ | ⟨y, ws, rfl, n, q, r⟩
 ·exact ⟨rfl, [], (fun _ z => nomatch z), by unfold RepF; rfl⟩
 ·exact ⟨rfl, ws, (fun _ z => by cases z; exact ⟨n, q⟩), r⟩
theorem XAt.some {K : PySem.W.Frag} {O : Addr → Prop} {H : Hp} {d : Option Addr} {fs : List (Str × PV)} (x : XAt K O H d fs) : fs = [] ∨ d.isSome := by
 rcases x with ⟨rfl, rfl⟩ | ⟨y, ws, rfl, n, q, r⟩
 ·exact .inl rfl
 ·exact .inr rfl
end
def PinX (X : Cx) (a : Addr) (cls : Value) (d : Option Addr) : Prop := ∃ oe : Obj, (a, oe) ∈ X.pn ∧ L2.Zc cls d oe ∧ ∃ vs, oe.data = .fields vs
theorem pinX_suiteC {X : Cx} {a : Addr} {oe : Obj} {cls : Value} {d : Option Addr} {pn : List (Addr × Obj)} (hz : L2.Zc cls d oe) (hf : ∃ vs, oe.data = .fields vs) : PinX (X.suite a ((a, oe) :: pn)) a cls d := ⟨oe, List.mem_cons_self, hz, hf⟩
theorem PinX.inst {X : Cx} {a C : Addr} {d : Option Addr} {pins : List (Addr × Obj)} {σ : St} {H : Hp} {s : Shared} (p : PinX X a (.ref C) d) (I : Inv X pins σ H s) (hd : ∀ x, d = some x → ∃ ws, H x = some (.xd ws)) : ∃ oe od, PySem.W.InstAt s.heap a oe C od ∧
  ∀ x ws, d = some x → H x = some (.xd ws) → ∃ (o : Obj) (mA : Str → Option Value), od = some o ∧ (∀ f, PySem.W.lookIn f o = some (mA f)) ∧ ∀ f, RelO (ws.lookup f) (mA f) := by
 obtain ⟨oe, hm, hz, vs, hv⟩ := p
 obtain ⟨hget, _⟩ := I.pin (a, oe) (List.mem_append.mpr (.inl hm))
 have nc : PySem.W.notCls oe = true := by unfold PySem.W.notCls; rw [hv] <;> rfl
 cases d with
 | none =>
  exact ⟨oe, none, ⟨hget, hz.1, nc, by rw [hz.2]; trivial⟩, fun x ws e => by cases e⟩
 | some x =>
  obtain ⟨ws, hx⟩ := hd x rfl
  have ok : ObjOk X.prog X.w H s.heap x (.xd ws) := I.hok x _ hx
  obtain ⟨mA, hns, hr⟩ := ok
  obtain ⟨od, ho, hl⟩ := lookIn_ns hns
  refine ⟨oe, some od, ⟨hget, hz.1, nc, by rw [hz.2]; exact ho⟩, fun y ws' e hy => ?_⟩
  cases e
  rw [hx] at hy
  cases hy
  exact ⟨od, mA, rfl, hl, hr⟩
section
variable {X : Cx} {T : List (Addr × Str)} {e : Expr} {te ta : TEp} {pos : Pos} {a : Addr} {cls : Value} {d : Option Addr}
def clsVal : PV → Option Value
 | .raw (.ref c) => some (.ref c)
 | .raw (.ty n) => some (.type n)
 | _ => none
theorem clsVal_rep {K : PySem.W.Frag} {O : Addr → Prop} {H : Hp} {x : PV} {cv : Value} {v : V} {u : Value} (h : Rep K O H x v) (e : clsVal x = some cv) (r : RelV v u) : u = cv := by
 unfold clsVal at e
 split at e
 ·cases e
  unfold Rep at h
  subst h
  exact r
 ·cases e
  unfold Rep at h
  subst h
  exact r
 ·cases e
def rIsX (K : PySem.W.Frag) (a : Addr) (cls : Value) (d : Option Addr) : R1p := fun ps P => ∃ fs c C cv b, ps = [.exn a d fs, c] ∧ cls = .ref C ∧ L2.ExcC K C ∧ clsVal c = some cv ∧ PySem.W.kitOne K (.ref C) cv = some b ∧ P (.bl b)
theorem zc_isX (p : PinX X a cls d) : CallR X (.builtin "isinstance") (r1 X.K (rIsX X.K a cls d)) := by
 intro pins s σ H xs us Q I r h
 obtain ⟨O, ps, P, tr, hx, h, k⟩ := h
 obtain ⟨fs, c, C, cv, b, rfl, rfl, Y, hc, hk, hp⟩ := h
 obtain ⟨v, w, rfl, r1, r2⟩ := hx.two
 cases r with
 | @cons _ u1 _ us1 q1 qr =>
 cases qr with
 | @cons _ u2 _ us2 q2 qr =>
 cases qr
 obtain rfl := clsVal_rep r2 hc q2
 unfold Rep at r1
 obtain ⟨rfl, ws, hd, _⟩ := r1
 cases (show u1 = Value.ref a from q1)
 obtain ⟨oe, od, J, _⟩ := p.inst I fun x hx => ⟨ws, (hd x hx).2⟩
 obtain ⟨cdD, hcD, _⟩ := PySem.W.any_some Y.hd
 exact PySem.W.kia_one (PySem.W.kitx_exc (by rw [hcD]; rfl) Y.hg Y.hk Y.hs Y.ha Y.hn Y.ht Y.hm) I.kIn J hk (fun z => nomatch z) fun tk => ⟨.bl b, H, I.kept (t' := tk) fun _ _ z => z, rfl, k.bl hp⟩
def rIsXT (K : PySem.W.Frag) (a : Addr) (cls : Value) (d : Option Addr) : R1p := fun ps P => ∃ fs cs C cvs b, ps = [.exn a d fs, .tup cs] ∧ cls = .ref C ∧ L2.ExcC K C ∧ cs.map clsVal = cvs.map some ∧ PySem.W.kitAny K (.ref C) cvs = some b ∧ P (.bl b)
theorem clsVals_rep {K : PySem.W.Frag} {O : Addr → Prop} {H : Hp} : ∀ {xs : List PV} {cvs : List Value} {vs : List V} {us : List Value}, Reps K O H xs vs → xs.map clsVal = cvs.map some → Vals vs us → us = cvs
 | [], cvs, vs, us, h, e, r => by
  rw [h.inv0] at r
  cases r
  cases cvs with
  | nil => rfl
  | cons => cases e
 | x :: xs, cvs, vs, us, h, e, r => by
  obtain ⟨v, ws, rfl, h1, h2⟩ := h.inv
  cases cvs with
  | nil => cases e
  | cons cv cvs =>
   rw [List.map_cons, List.map_cons] at e
   obtain ⟨e1, e2⟩ := List.cons.inj e
   cases r with
   | cons q1 qr => rw [clsVal_rep h1 e1 q1, clsVals_rep h2 e2 qr]
theorem zc_isXT (p : PinX X a cls d) : CallR X (.builtin "isinstance") (r1 X.K (rIsXT X.K a cls d)) := by
 intro pins s σ H xs us Q I r h
 obtain ⟨O, ps, P, tr, hx, h, k⟩ := h
 obtain ⟨fs, cs, C, cvs, b, rfl, rfl, Y, hc, hk, hp⟩ := h
 obtain ⟨v, w, rfl, r1, r2⟩ := hx.two
 cases r with
 | @cons _ u1 _ us1 q1 qr =>
 cases qr with
 | @cons _ u2 _ us2 q2 qr =>
 cases qr
 obtain ⟨tp, vs, rfl, ht, rr⟩ := r2.tup_
 cases (show u2 = Value.ref tp from q2)
 unfold Rep at r1
 obtain ⟨rfl, ws, hd, _⟩ := r1
 cases (show u1 = Value.ref a from q1)
 obtain ⟨oe, od, J, _⟩ := p.inst I fun x hx => ⟨ws, (hd x hx).2⟩
 obtain ⟨cdD, hcD, _⟩ := PySem.W.any_some Y.hd
 have KK := PySem.W.kitx_exc (K := X.K) (x := a) (C := C) (od := od) (ox := oe) (by rw [hcD]; rfl) Y.hg Y.hk Y.hs Y.ha Y.hn Y.ht Y.hm
 obtain ⟨its, o, n, g1, g2, g3, g4⟩ : ∃ (its : Array Value) (o : Obj) (n : Nat), s.heap.get? tp = some o ∧ o.cls = .type "tuple" ∧ o.data = .seq its n ∧ Vals vs its.toList := by
  rcases ht.sq with h | ⟨o, its, n, e1, e2, e3, e4, e5⟩
  ·rcases h with h | ⟨of, h⟩
   ·obtain ⟨_, its, rv, o, h1, h2, n, h3⟩ := (show ObjOk X.prog X.w H s.heap tp (.tup vs) from I.hok tp _ h)
    exact ⟨its.toArray, o, n, h1, h2, h3, rv⟩
   ·obtain ⟨_, its, rv, o, h1, h2, n, h3⟩ := (show ObjOk X.prog X.w H s.heap tp (.frz of (.tup vs)) from I.hok tp _ h).2
    exact ⟨its.toArray, o, n, h1, h2, h3, rv⟩
  ·exact ⟨its, o, n, I.kIn _ _ e1, e2, e3, e5⟩
 have e3 := clsVals_rep rr hc g4
 subst e3
 obtain ⟨oc, od', dt, sl⟩ := o
 simp only at g2 g3
 subst g2 g3
 exact PySem.W.kia_tup KK I.kIn J g1 hk (fun z => nomatch z) fun tk => ⟨.bl b, H, I.kept (t' := tk) fun _ _ z => z, rfl, k.bl hp⟩
structure XfN (K : PySem.W.Frag) (C : Addr) (f : Str) : Prop where
 t : XfC K C
 n : PySem.W.findIn K (.ref C) f = some none
def tXfP (K : PySem.W.Frag) (a : Addr) (cls : Value) (d : Option Addr) (f : Str) (te : TEp) : TEp := fun η P => te η fun x η1 => ∃ fs C y, x = .exn a d fs ∧ cls = .ref C ∧ XfN K C f ∧ d.isSome ∧ fs.lookup f = some y ∧ P y η1
theorem z_xf {f : Str} (p : PinX X a cls d) (he : PE X e (up X.K T te)) (hb : attributeBase e f X.env (eval e X.env) = eval e X.env := by rfl) : PE X (.Attribute e f pos) (up X.K T (tXfP X.K a cls d f te)) := by
 refine ⟨fun pins s σ H Q I h => ?_⟩
 obtain ⟨F, η, P, R, h, k⟩ := h
 refine attr_of hb (thn (he.run pins s σ H (fun v H1 => ∃ η1 fs C y, Rs X.K T F σ η1 H1 ∧ Ext σ η σ η1 H H1 ∧ Rep X.K (Oof F σ η1) H1 (.exn a d fs) v ∧ cls = .ref C ∧ XfN X.K C f ∧ d.isSome ∧ fs.lookup f = some y ∧ P y η1) I
  ⟨F, η, _, R, h, fun x η1 v H1 h1 e1 R1 r1 => by
   obtain ⟨fs, C, y, rfl, h2, h3, h4, h5, h6⟩ := h1
   exact ⟨η1, fs, C, y, R1, e1, r1, h2, h3, h4, h5, h6⟩⟩) fun u s1 hh => ?_)
 obtain ⟨v, H1, I1, rv, η1, fs, C, y, R1, e1, r1, rfl, N, hd, hl, hp⟩ := hh
 have r1' := r1
 unfold Rep at r1'
 obtain ⟨rfl, ws, hw, rf⟩ := r1'
 obtain rfl : u = Value.ref a := rv
 obtain ⟨x, rfl⟩ := Option.isSome_iff_exists.mp hd
 obtain ⟨oe, od, J, look⟩ := p.inst I1 fun z hz => ⟨ws, (hw z hz).2⟩
 obtain ⟨o, mA, rfl, l1, l2⟩ := look x ws rfl (hw x rfl).2
 obtain ⟨vy, h1, h2⟩ := (rf.look f).1 y hl
 obtain ⟨uy, hu, ru⟩ := RelO.some_of (v := vy) (o := mA f) (by rw [← h1]; exact l2 f)
 exact HandSPX.exc_get I1.kIn J N.t.ga N.t.gg N.t.exC (PySem.W.findObj_own N.t.hdC N.n rfl (by rw [l1 f, hu])) (handed_of ru) ⟨vy, H1, I1.tok _, ru, k _ _ _ _ hp e1 R1 h2⟩
end
structure XTxt (st : Stmt) (qual fld : Str) : Prop where
 ex : ∃ (m : Str) (j : Nat) (p0 p1 p2 p3 p4 p5 p6 p7 p8 p9 : Pos) (ar : Arg),
  defBody st = [.Expr (.Call (.Attribute (.Call (.Name "super" p0) [] [] p1) "__init__" p2) [.Constant (.str m) j p3] [] p4) p5, .Assign [.Attribute (.Name "self" p6) fld p7] (.Name fld p8) p9] ∧
  ((defArgs st).posonlyargs ++ (defArgs st).args).head? = some ar ∧ ar.arg = "self" ∧
  (∀ (L fI cda cc : Addr), interactive (PySem.W.ksEnv qual (defScope st) L fI (.ref cda) cc) = false) ∧
  (∀ (L fI cda cc : Addr), ∃ pl : Sem Bool, eval (.Call (.Attribute (.Call (.Name "super" p0) [] [] p1) "__init__" p2) [.Constant (.str m) j p3] [] p4) (PySem.W.ksEnv qual (defScope st) L fI (.ref cda) cc) = (do
   let ov ← attributeBase (.Call (.Name "super" p0) [] [] p1) "__init__" (PySem.W.ksEnv qual (defScope st) L fI (.ref cda) cc) (eval (.Call (.Name "super" p0) [] [] p1) (PySem.W.ksEnv qual (defScope st) L fI (.ref cda) cc))
   standAt p2.atName
   let (f, first) ← holding [ov] (getMethod ov "__init__" pl)
   callWith p4 f first (backTo p4 (starEach [.Constant (.str m) j p3] (PySem.W.ksEnv qual (defScope st) L fI (.ref cda) cc))) [])) ∧
  (∀ (L fI cda cc : Addr), swapsWith (.Call (.Attribute (.Call (.Name "super" p0) [] [] p1) "__init__" p2) [.Constant (.str m) j p3] [] p4) none p5.line (PySem.W.ksEnv qual (defScope st) L fI (.ref cda) cc) = pure false) ∧
  (∀ (L fI cda cc : Addr), swapsWith (.Name fld p8) (some (.Attribute (.Name "self" p6) fld p7)) p9.line (PySem.W.ksEnv qual (defScope st) L fI (.ref cda) cc) = pure false)
 n1 : (defScope st).names.lookup ("super" : Str) = some .globalImplicit
 n2 : (defScope st).names.lookup ("__class__" : Str) = some .free
 n3 : (defScope st).names.lookup ("self" : Str) = some .local
 n4 : (defScope st).names.lookup fld = some .local
 n5 : (defScope st).kind = .function
 n6 : (defScope st).isCoroutine = false
 n7 : (defScope st).isGenerator = false
 n8 : ∀ x ∈ (defScope st).names, x.2 ≠ .cell
 b : ∀ (kV doc pm : Value) (an : Option Addr) (cdv ct : Value) (cc : Addr) (e u : Value), bindArgs (PySem.W.ksFn "__init__" qual (defArgs st) (defBody st) (defScope st) .none kV doc pm an cdv ct cc) ⟨[e, u], []⟩ = pure [(("self" : Str), e), (fld, u)]
def xclB (K : PySem.W.Frag) (C fI : Addr) (qual fld : Str) (B i newId : String) (bmB : List Value) (cda : Addr) : Bool :=
 decide (PySem.W.typeIn K (.ref fI) = some (.type "function")) && (decide (PySem.W.subIn K (.ref C) (.type "BaseException") = some true) && (decide (PySem.W.typeIn K (.ref C) = some (.type "type")) && (PySem.W.keepIn K (.ref C) &&
 (PySem.W.codeIn K (.ref cda) qual && ((PySem.W.clsIn K C).isSome && (decide (PySem.W.mroIn K C (.ref C) = some true) && (decide (PySem.W.subIn K (.ref C) (.type B) = some true) && (decide (PySem.W.nsIn K cStatics "thirdparty.any" = some none) &&
 (decide (PySem.W.ks_superIn K C C "__init__" = some (some (.builtin i))) && (PySem.W.excInitIn K C bmB newId && (PySem.W.excOver K C bmB && (decide (PySem.W.takerIn K C fld = some none) && (PySem.W.hasDictIn K C &&
 (decide (PySem.W.findIn K (.ref C) "__setattr__" = some (some (.builtin "object.__setattr__"))) && (decide (PySem.W.findIn K (.ref C) "__getattribute__" = some (some (.builtin "BaseException.__getattribute__"))) && (decide (PySem.W.findIn K (.ref C) "__getattr__" = some none) &&
 (decide (PySem.W.findIn K (.ref C) fld = some none) && (decide (PySem.W.findIn K (.ref C) "__class__" = some (some (.builtin "object.__class__"))) && (decide (PySem.W.specialIn K (.builtin "object.__class__") "__get__" = some (some (.builtin "getset_descriptor.__get__"))) &&
 (decide (PySem.W.takesIn K (.builtin "object.__class__") = some true) && decide (PySem.W.mroIn K C (.type "object") = some true)))))))))))))))))))))
theorem baseV : ZX.BaseX "ValueError" "ValueError.__init__" "ValueError.__new__" [.type "ValueError", .type "Exception", .type "BaseException", .type "object"] := ⟨F.excBase_ValueError, PySem.W.kxs_ValueError, F.store_ValueError⟩
structure XAll (P : Program) (K : PySem.W.Frag) (mg : Str → Option Value) (x : Str) (C : Addr) (fld : Str) : Prop where
 ok : XOk P K mg x C fld
 is : L2.ExcC K C
 xf : XfN K C fld
theorem xAll_of {P : Program} {K : PySem.W.Frag} {mg : Str → Option Value} {x fld qual : Str} {st : Stmt} {C fI cc cda : Addr} {B i newId : String} {bmB : List Value} {oc kV doc pm ct cl ccl : Value} {od an cld cdd : Option Addr} {osl csl ccs : Array (Option Value)} {vs : Array Value} {file : Str} {tf : Tok}
  (BX : ZX.BaseX B i newId bmB) (T : XTxt st qual fld) (hg : mg x = some (.ref C)) (iC : PySem.W.findIn K (.ref C) "__init__" = some (some (.ref fI)))
  (lk : K.lookup fI = some ⟨oc, od, .func (PySem.W.ksFn "__init__" qual (defArgs st) (defBody st) (defScope st) .none kV doc pm an (.ref cda) ct cc), osl⟩)
  (cell : K.lookup cc = some ⟨cl, cld, .cell (some (.ref C)), csl⟩) (code : K.lookup cda = some ⟨ccl, cdd, .fields vs, ccs⟩) (hvs : vs[2]? = some (.str file tf)) (hfile : ((P.main.file : Str) == file) = true) (htop : (P.main.scope.names.lookup ("super" : Str)).isSome = false)
  (hB : xclB K C fI qual fld B i newId bmB cda = true) (hn1 : (fld == ("__debug__" : Str)) = false := by decide) (hn2 : fld ≠ "self" := by decide) : XAll P K mg x C fld := by
 unfold xclB at hB
 simp only [Bool.and_eq_true, decide_eq_true_eq] at hB
 obtain ⟨h1, h2, h3, h4, h5, h6, h7, h8, h9, h10, h11, h12, h13, h14, h15, h16, h17, h18, h19, h20, h21, h22⟩ := hB
 obtain ⟨m, j, p0, p1, p2, p3, p4, p5, p6, p7, p8, p9, ar, hb, ha, har, e1, e2, e3, e4⟩ := T.ex
 refine ⟨⟨⟨fI, cc, cda, B, i, newId, bmB, _, BX, ⟨⟨oc, od, osl, qual, defArgs st, m, j, p0, p1, p2, p3, p4, p5, p6, p7, p8, p9, defScope st, .none, kV, doc, pm, ct, an, ar, ?_, lk, h5, ha, har, T.n1, T.n2, T.n3, T.n4, T.n5, T.n6, T.n7, T.n8, fun L => e1 L fI cda cc, fun L => e2 L fI cda cc, fun L => e3 L fI cda cc, fun L => e4 L fI cda cc⟩,
  fun s e u => .of_eq (T.b _ _ _ _ _ _ _ e u), ⟨cl, cld, csl, cell⟩, ⟨ccl, cdd, vs, ccs, file, tf, code, hvs, hfile⟩, htop, Option.isSome_iff_exists.mp h6, h7, h8, h9, h10, h11, h15, h12, h13, h14, hn1, hn2⟩, ⟨iC, h1, h2, h3, h4⟩⟩, hg⟩,
  ⟨h16, h17, h2, h14, h19, h20, h21, h22⟩, ⟨⟨h16, h17, h2, h14⟩, h18⟩⟩
 rw [hb]
end Z
namespace L2T
open PySem PySem.Spec PyProof.Rows L2
open L2N (NamesL TupM flying_keep evalNames wTup wTupO)
abbrev St := L2.St
section
variable {X : Cx} {n : Str} {cs : List Value} {elts : List Expr} {ek : Nat} {i : Nat} {body suite : List Stmt} {b₀ : Stmt} {np pos pos' : Pos} {tb : WX → TS} {ts : Addr → Value → Option Addr → TS} {Wout : WX}
theorem ps_try_tup_as (hs : X.stack = X.env :: X.outer) (hf : X.env.frame = some X.env.locals) (hN : X.N.Nodup) (hi : X.N[i]? = some n) (hln : X.env.kindOf n = some .local) (hc : NamesL X elts cs) (hm : TupM X.prog X.w X.K cs) (hl : cs.length ≤ 1000) (tk : L2.Takes X Wout)
  (hb : ∀ (W : WX) (pn : List (Addr × Obj)) (xe : Value → Shared → Prop), L2.Takes (X.tr pn xe) W → PassesOwn (model X.prog X.w) X.A X.env xe → PSs (X.tr pn xe) body (tb W))
  (hsu : ∀ (a : Addr) (oe : Obj) (cls : Value) (d : Option Addr) (pn : List (Addr × Obj)), L2.Zc cls d oe → (∃ vs, oe.data = .fields vs) → PSs (X.suite a ((a, oe) :: pn)) (b₀ :: suite) (ts a cls d)) :
  PS X (.Try body [.ExceptHandler (some (.Tuple elts ek np)) (some n) (b₀ :: suite) pos'] [] [] pos) (fun D σ H => tb (wTup X.K cs i ts Wout D) D σ H) := by
 refine ⟨fun pins s σ H D I h => ?_⟩
 have ok := I.ok
 have hfr : X.A.frames = some (X.env :: X.outer) := by rw [ok.frames, hs]
 have hloc : Loc X.env.scope n := .inl hln
 refine wpAny_Try_except ?_
 refine wpAny_mono ((hb (wTup X.K cs i ts Wout D) (X.pn ++ pins) (fun e s₁ => wpAny (model X.prog X.w) X.A (noteFrame e X.env) (fun _ s₂ => wpAny (model X.prog X.w) X.A (setFlight e none) (fun _ s₃ =>
  wpAny (model X.prog X.w) X.A (handleBy e X.env [.ExceptHandler (some (.Tuple elts ek np)) (some n) (b₀ :: suite) pos']) (SP X pins D) X.xe s₃) X.xe s₂) X.xe s₁) (fun u s' xx => ?_) PassesOwn.looking).run [] s σ H D (I.toTry _) h) (fun f s1 hsp => ?_) (fun e s1 he => he)
 ·-- the catch
  obtain ⟨a, B, sI, pins', σ', H', cls, d, rfl, J', nb, up, sky, na, os, ag, b, hb1, hyes, hno⟩ := xx
  have J : Inv X pins σ' H' sI := J'.ofTry ok
  have sky' : Sky B (X.env :: X.outer) a (L2.Zc cls d) X.env.locals s'.heap := by rw [← hs]; exact sky
  show wpAny (model X.prog X.w) X.A (noteFrame (.ref a) X.env) _ _ _
  refine L2.Sky.land L2.Zc.steady hfr hf sky' fun h3' fl3' up3' => ?_
  have J3' : Inv X pins σ' H' { s' with heap := h3' } := J.landed nb fl3'.1 (up.trans up3') os ag
  obtain ⟨oe3, vs3, he3', hz3, hd3⟩ := fl3'.there
  have notFr : ∀ {h : Heap} {o : Obj} {vs : Array Value}, h.FunFrames B (X.env :: X.outer) → h.get? a = some o → o.data = .fields vs → a ∉ frs (X.env :: X.outer) := fun {h o vs} ff e dd hm => by
   obtain ⟨_, o', e', hnf⟩ := ff.mem hm
   rw [e] at e'; cases e'
   exact hnf _ dd
  have nfr := notFr fl3'.2.2.1 he3' hd3
  have nL : a ≠ X.env.locals := fun z => nfr (List.mem_filterMap.mpr ⟨X.env, List.mem_cons_self, by rw [hf, z]⟩)
  have nF : a ∉ X.fs := fun hm => by
   obtain ⟨e, he, q⟩ := List.mem_filterMap.mp hm
   exact nfr (List.mem_filterMap.mpr ⟨e, List.mem_cons_of_mem _ he, q⟩)
  have S3' := J3'.suite he3' hd3 na nL nF
  refine wpAny_handleBy_cons (codeAny_handlers_test ?_) (by intro q; cases q)
  refine Tuple_ (evalNames S3' hc ?_)
  refine wpAny_newObj_type ?_ (by show cs.toArray.size ≤ sizeLine; rw [List.size_toArray, sizeLine_eq]; omega)
  let h3 : Heap := h3'.push { cls := .type "tuple", dict := none, data := .seq cs.toArray }
  have kp : ∀ b o, h3'.get? b = some o → h3.get? b = some o := fun b o e => Heap.get?_push_of_some _ e
  have fl3 : HandSPX.FlyingZ B (X.env :: X.outer) a (L2.Zc cls d) h3 := flying_keep kp fl3'
  have up3 : s'.heap.UpToSlots h3 := up3'.trans (Heap.UpToSlots.of_keeps kp)
  have J3 : Inv X pins σ' H' { s' with heap := h3 } := J.landed nb fl3.1 (up.trans up3) os ag
  have he3 := kp _ _ he3'
  have LT : PySem.W.Looks (model X.prog X.w) h3 (typeOf (.ref a)) cls := fun A Q E s k q => wpAny_typeOf_ref (k _ _ he3) (by rw [hz3.1]; exact q)
  have LM := hm J3.kIn LT (Heap.get?_push_size _ rfl) hb1
  show wpAny _ _ _ _ _ { s' with heap := h3 }
  refine LM.here ?_
  cases b with
  | true =>
   refine codeAny_handlers_suite_as ?_
   refine HandSPX.lands_againZ fl3 fun h4 fl4 up4 => ?_
   have J4 : Inv X pins σ' H' { s' with heap := h4 } := J.landed nb fl4.1 ((up.trans up3).trans up4) os ag
   obtain ⟨oe4, vs4, he4, hz4, hd4⟩ := fl4.there
   have S4 := J4.suite he4 hd4 na nL nF
   refine store_ok (X := X.suite a ((a, oe4) :: (X.pn ++ pins))) (v := .ref a) S4 hN hi hloc rfl (fun s5 S5 => ?_) (.inr hln)
   refine wpAny_mono ((hsu a oe4 cls d (X.pn ++ pins) hz4 ⟨_, hd4⟩).run [] s5 _ H' _ S5 (hyes rfl a na)) (fun f s6 hsp => ?_) (fun _ _ z => False.elim z)
   have end_ : ∀ {σ6 : St} {H6 : Hp} {Q : Shared → Prop}, Inv (X.suite a ((a, oe4) :: (X.pn ++ pins))) [] σ6 H6 s6 → (∀ s7, Inv X pins (σ6.set i none) H6 s7 → Q s7) →
     wpAny (model X.prog X.w) X.A (do bindName X.env n .none; unbindBehindTheSuite X.env n pos') (fun _ s7 => Q s7) X.xe s6 := fun {σ6 H6 Q} S6 hq => gone_ok (S6.unsuite ok) hN hi hln hq
   cases f with
   | next =>
    obtain ⟨σ6, H6, S6, q6⟩ := hsp
    exact end_ S6 fun s7 J7 => ⟨_, _, J7, q6⟩
   | brk =>
    obtain ⟨σ6, H6, S6, q6⟩ := hsp
    exact end_ S6 fun s7 J7 => ⟨_, _, J7, q6⟩
   | cont =>
    obtain ⟨σ6, H6, S6, q6⟩ := hsp
    exact end_ S6 fun s7 J7 => ⟨_, _, J7, q6⟩
   | ret u =>
    obtain ⟨v6, σ6, H6, S6, r6, q6⟩ := hsp
    exact end_ S6 fun s7 J7 => ⟨_, _, _, J7, r6, q6⟩
  | false =>
   show wpAny _ X.A (handleBy (.ref a) X.env []) _ _ _
   refine wpAny_handleBy_nil ?_
   obtain ⟨k1, k2, k3, oe, vs, T, oT, ts', he, hz, hd, h1, hr⟩ := id fl3
   unfold PySem.passOn
   refine wpAny_bind (wpAny_field he hd h1 ?_)
   rw [if_neg (show ¬ ((Value.ref T == Value.none) = true) from by simp)]
   have fin : wpAny (model X.prog X.w) X.A (setFlight (.ref a) X.env.frame) (fun _ s4 => wpAny (model X.prog X.w) X.A (throw (.ref a) : Sem Flow) (SP X pins D) X.xe s4) X.xe { s' with heap := h3 } := by
    rw [hf]
    refine HandSPX.setFlight_upZ fl3 fun h4 hh4 up4 => wpAny_throw (tk _ _ ?_)
    exact ⟨a, B, sI, pins, σ', H', cls, d, rfl, J, nb, (up.trans up3).trans up4, .inr (.inr (by rw [hs]; exact hh4)), na, os, ag, hno rfl⟩
   first
    | exact wpAny_bind (wpAny_pure (wpAny_bind fin))
    | exact wpAny_bind fin
 ·cases f with
  | next =>
   obtain ⟨σ', H', J', q⟩ := hsp
   exact wpAny_execs_nil ⟨σ', H', J'.ofTry ok, q⟩
  | brk =>
   obtain ⟨σ', H', J', q⟩ := hsp
   exact ⟨σ', H', J'.ofTry ok, q⟩
  | cont =>
   obtain ⟨σ', H', J', q⟩ := hsp
   exact ⟨σ', H', J'.ofTry ok, q⟩
  | ret u =>
   obtain ⟨v, σ', H', J', r, q⟩ := hsp
   exact ⟨v, σ', H', J'.ofTry ok, r, q⟩
end
open LamX
section
variable {X : Cx} {pins : List (Addr × Obj)} {σ : L2.St} {H HZ : Hp} {s s1 : Shared}
theorem lam_takes {A : Around} {outer : List Env} {E : XK} {scope : Scope} {f c' : Addr} : L2.Takes (lamCx X A outer s H E scope f c') (fun cls d _ H' => E cls d H') := L2.takes_of rfl rfl rfl rfl
theorem act {CXg : CXT} {Eg : XK} {Ng : List Str} {qg : Str} {sg : Scope} {g f c' : Addr} {cdg pm ctv : Value} {params : Arguments} {body : Expr} {scope : Scope} {k i : Nat} {a : Str} {pn : List (Addr × Obj)} {xe : Value → Shared → Prop} {W : WX} {E : XK} {tb : TE} {p1 p2 : Pos}
  (I : Inv X pins σ H s) (L : LamS X.env.scope scope) (hf : s.heap.get? f = some (PySem.W.kla_obj "<lambda>" (X.env.qual ++ "<lambda>") params body scope (cloFrom X.env.cells scope.names []) pm c' ctv)) (hfn : H f = none) (hfr : f ∉ frs X.stack)
  (hbind : bindArgs (PySem.W.kla_fn "<lambda>" (X.env.qual ++ "<lambda>") params body scope (cloFrom X.env.cells scope.names []) pm (.ref c') ctv) ⟨[], []⟩ = pure [])
  (tk : L2.Takes ((cxOf CXg X.prog X.w X.K X.mg X.base Ng qg sg g cdg X.A X.stack s H Eg).tr pn xe) W) (hr : Room (k + 1) (X.A.deeper (envOfC qg sg s.heap.objs.size g cdg)))
  (hbody : ∀ (A : Around) (outer : List Env) (s : Shared) (H : Hp), Room k (A.deeper (lamEnv X scope s.heap.objs.size f c')) → PE (lamCx X A outer s H E scope f c') body tb)
  (hN : Ng[i]? = some a) (hv : Vis sg a) (hd : (a == ("__debug__" : Str)) = false := by decide) (hcd : (a == ("__classdict__" : Str)) = false := by decide) :
  PE ((cxOf CXg X.prog X.w X.K X.mg X.base Ng qg sg g cdg X.A X.stack s H Eg).tr pn xe) (.Call (.Name a p1) [] [] p2)
   (fun σZ HZ Q => (∀ cls d H', E cls d H' → W cls d σZ H') ∧ σZ[i]? = some (some (.ref f)) ∧ HZ c' = some (CodeO c' (X.env.qual ++ "<lambda>")) ∧ tb σ HZ Q) := by
 constructor
 intro pinsZ sZ σZ HZ Q IZ h
 obtain ⟨hW, hs, hc, ht⟩ := h
 refine wpAny_Call_Name_kw (thn ((pe_var (pos := p1) (i := i) hN hv hd hcd).run pinsZ sZ σZ HZ (fun v H1 => v = .ref f ∧ H1 = HZ) IZ ⟨.ref f, hs, rfl, rfl⟩) fun u s1 hq1 => ?_)
 obtain ⟨v, H1, I1, r1, ev, eH⟩ := hq1
 subst ev eH
 obtain rfl : u = Value.ref f := r1
 have gf := I1.base.keep f _ hf hfn hfr (fun z => nomatch (show f ∈ ([] : List Addr) from z))
 refine PySem.W.callWith_F0 ⟨_, _, _, _, gf⟩ ?_
 obtain ⟨⟨oc, vs, t, g1, g2, g3⟩, _, _⟩ := I1.hok c' _ hc
 have rc : codeAny (model X.prog X.w) (X.A.deeper (envOfC qg sg s.heap.objs.size g cdg)) (.call (.ref f) ⟨[], []⟩) (CR (L2.CX X.prog X.w) (envOfC qg sg s.heap.objs.size g cdg :: X.stack) X.prog X.w H1 s1 Q E) s1 := by
  refine PySem.W.kla_callFunE hr.depth gf rfl L.co L.gen rfl ⟨c', oc, vs, t, rfl, g1, g2, g3⟩ ?_
  rw [hbind]
  refine wpAny_pure (wpAny_newFunctionEnv (fun y hy => (L.own y hy).2) (fun y hy => absurd hy (by simp)) (fun h₁ hns hsb => ⟨I1.nolimit.fresh _ hsb, ?_⟩) L.kind)
  have J := lam_start2 (tk := s1.toks + ([] : List (Str × Value)).length) (E := E) (f := f) (c' := c') I L I1.env0 hr.hd I1.base hns (fun b o e => hsb.extBut b o (Nat.ne_of_lt (Heap.lt_size e)) (Heap.get?_push_of_some _ e))
  refine PySem.W.kla_codeExpr (wpAny_mono ((hbody _ _ s1 H1 (hr.deeper _)).run [] _ _ H1 Q J ht) (fun v s' hq => ?_) fun e s' hq => hq)
  obtain ⟨w', H', J', rv, q⟩ := hq
  exact ⟨w', H', J'.os, J'.bare, J'.base, J'.hok, rv, q⟩
 refine wpAny_call (codeAny_mono rc fun r s' hq => ?_)
 cases r with
 | error e => exact tk e s' (L2.XE.of_call I1 hW hq)
 | ok fl =>
  cases fl with
  | ret u => exact I1.after hq
  | next => exact False.elim hq
  | brk => exact False.elim hq
  | cont => exact False.elim hq
end
def Gives (X : Cx) (Ng : List Str) (x : Str) (sg : Scope) (g : Addr) (cdg : Value) (bg : List Stmt) (a q : Str) (k : Nat) (TT : (XK → Hp → VK → Prop) → Hp → VK → Prop) : Prop :=
 ∀ (f c' : Addr) (s : Shared) (H : Hp) (Q : VK) (tl : XK → Hp → VK → Prop), Room (k + 1) (X.A.deeper (envOfC x sg s.heap.objs.size g cdg)) →
  (∀ (W : WX) (pn : List (Addr × Obj)) (xe : Value → Shared → Prop) (E : XK) (p1 p2 : Pos), L2.Takes ((cxOf C8.CX0 X.prog X.w X.K X.mg X.base Ng x sg g cdg X.A X.stack s H C8.E0).tr pn xe) W →
   PE ((cxOf C8.CX0 X.prog X.w X.K X.mg X.base Ng x sg g cdg X.A X.stack s H C8.E0).tr pn xe) (.Call (.Name a p1) [] [] p2) (fun σZ HZ Q => (∀ cls d H', E cls d H' → W cls d σZ H') ∧ σZ[0]? = some (some (.ref f)) ∧ HZ c' = some (CodeO c' q) ∧ tl E HZ Q)) →
  H c' = some (CodeO c' q) → TT tl H Q →
  ∃ t, PSs (cxOf C8.CX0 X.prog X.w X.K X.mg X.base Ng x sg g cdg X.A X.stack s H C8.E0).nox bg t ∧ t { nx := fun _ H' => Q .non H', rt := Q } (L2.start Ng [.ref f]) H
section
variable {X : Cx}
theorem lamcall {T : List (Addr × Str)} {TT : (XK → Hp → VK → Prop) → Hp → VK → Prop} {x a : Str} {g c P : Addr} {k : Nat} {pg : Arguments} {bg : List Stmt} {sg : Scope} {dV kV doc pm cdv ct oc : Value} {an od : Option Addr} {osl : Array (Option Value)} {Ng : List Str}
  {params : Arguments} {body : Expr} {scope : Scope} {t : XK → TE} {p lpos pos : Pos} (hg : Gl X x) (hm : X.mg x = some (.ref g)) (hk : PySem.W.keepIn X.K (.ref g) = true)
  (lk : X.K.lookup g = some ⟨oc, od, .func (PySem.W.fnOf x x pg bg sg dV kV doc pm an cdv ct), osl⟩) (hcg : PySem.W.codeIn X.K cdv x = true) (hb : L2.Binds X.K (PySem.W.fnOf x x pg bg sg dV kV doc pm an cdv ct) [a] []) (Sg : FnScope Ng [a] sg) (hNg : Ng[0]? = some a) (hva : Vis sg a)
  (hG : Gives X Ng x sg g cdv bg a (X.env.qual ++ "<lambda>") k TT)
  (TB : TabB X.base X.mg c P) (hcode : X.env.code = .ref c) (hmT : (P, X.env.qual ++ "<lambda>") ∈ T) (hu : ∀ p ∈ T, p.1 = P → p.2 = X.env.qual ++ "<lambda>") (hr : Room (k + 2) X.A) (L : LamS X.env.scope scope) (hdef : defaultsOf params X.env = ([], []))
  (hbind : ∀ (q : Str) (cl : List (Str × Addr)) (pm cv ctv : Value), bindArgs (PySem.W.kla_fn "<lambda>" q params body scope cl pm cv ctv) ⟨[], []⟩ = pure [])
  (hbody : ∀ (A : Around) (outer : List Env) (s : Shared) (H : Hp) (E : XK) (f c' : Addr), Room k (A.deeper (lamEnv X scope s.heap.objs.size f c')) → PE (lamCx X A outer s H E scope f c') body (t E))
  (hdb : (x == ("__debug__" : Str)) = false := by decide) (hd : (a == ("__debug__" : Str)) = false := by decide) (hcd : (a == ("__classdict__" : Str)) = false := by decide) :
  PE X (.Call (.Name x p) [.Lambda params body scope lpos] [] pos) (tLam T TT t) := by
 constructor
 intro pins s σ H Q I h
 obtain ⟨hT, h⟩ := h
 refine wpAny_Call_Name_kw (ld_glob I hg hm ?_ hdb)
 refine PySem.W.callWith_K (h₀ := X.base) I.ok.mod.kin hk ?_ (by rfl) (by rfl)
 refine Calls.spliced_cons (lam_make2 I TB hcode hmT hu hT hdef (L.has I.ok) fun f c' pm' ctv H1 s' I1 eN T1 hf hfn hfr hco => ?_)
 refine Calls.spliced_nil ⟨I1.kIn, ?_⟩
 have rc : codeAny (model X.prog X.w) X.A (.call (.ref g) ⟨[.ref f], []⟩) (CR C8.CX0 X.stack X.prog X.w H1 s' Q C8.E0) s' := by
  refine run_ofS (N := Ng) (ps := [a]) (us := [.ref f]) (vs := [.ref f]) lk hcg Sg hr I1.env0 (hb s' [.ref f] I1.kIn rfl) (.cons rfl .nil) rfl fun hr' => ?_
  obtain ⟨t', ht', hq'⟩ := hG f c' s' H1 Q (fun E H' Q' => t E σ H' Q') hr' (fun W pn xe E p1 p2 tk => act (i := 0) I1 L hf hfn hfr (hbind _ _ _ _ _) tk hr' (fun A outer s H hr2 => hbody A outer s H E f c' hr2) hNg hva hd hcd) hco (h H1 eN T1)
  exact ⟨t', ht'.nox, hq'⟩
 refine wpAny_call (codeAny_mono rc fun r s2 hq => ?_)
 cases r with
 | error e => exact (show False from hq).elim
 | ok fl =>
  cases fl with
  | ret u => exact I1.after hq
  | next => exact False.elim hq
  | brk => exact False.elim hq
  | cont => exact False.elim hq
end
end L2T
namespace Z
open PySem PySem.Spec L2
open PyProof.Rows hiding St
abbrev SpZ := Addr → Value → Option Addr → SpP
structure FnZ (P : Program) (w : World) (K : PySem.W.Frag) (mg : Str → Option Value) (base : Heap) (k : Nat) (f : Addr) (fd : FuncData) (ps : List Str) (sp : Addr → Value → Option Addr → Sp) : Prop where
 len : ∀ a cls d vs H Q E, sp a cls d vs H Q E → vs.length = ps.length
 run : ∀ (A : Around) (outer : List Env) (s : Shared) (H : Hp) (args : Args) (us : List Value) (vs : List V) (Q : VK) (p : Addr × Obj) (cls : Value) (d : Option Addr), L2H.RoomH k A → L2.Zc cls d p.2 → (∃ xs, p.2.data = .fields xs) → L2H.PinOk outer H s p → Env0 P w K mg base A outer s H →
  BindsTo s fd args (ps.zip us) → Vals vs us → sp p.1 cls d vs H Q E0 → codeAny (model P w) A (.call (.ref f) args) (CR CX0 outer P w H s Q E0) s
section
variable {P : Program} {w : World} {K : PySem.W.Frag} {mg : Str → Option Value} {base : Heap} {T : List (Addr × Str)}
abbrev cxZ (P : Program) (w : World) (K : PySem.W.Frag) (mg : Str → Option Value) (base : Heap) (N : List Str) (qual : Str) (sc : Scope) (f : Addr) (cdv : Value) (A : Around) (outer : List Env) (s : Shared) (H : Hp) (E : XK) (p : Addr × Obj) : Cx :=
 (L2H.cxH CX0 P w K mg base N qual sc f cdv A outer s H E p).nox
theorem okPZ {x qual : Str} {st : Stmt} {f : Addr} {fd : FuncData} {N ps : List Str} {k : Nat} {sp : SpZ} (Fn : Fun K x qual st f fd) (S : FnScope N ps (defScope st)) (hl : ∀ a cls d args P, sp a cls d args P → args.length = ps.length) (hn : ps.length ≤ N.length)
  (hbody : ∀ (cdv : Value) (A : Around) (outer : List Env) (s : Shared) (H : Hp) (E : XK) (p : Addr × Obj) (cls : Value) (d : Option Addr), PinX (cxZ P w K mg base N qual (defScope st) f cdv A outer s H E p) p.1 cls d → L2H.RoomH k (A.deeper (envOfC qual (defScope st) s.heap.objs.size f cdv)) →
   ∃ ts, PSs (cxZ P w K mg base N qual (defScope st) f cdv A outer s H E p) (defBody st) (upS K T ts) ∧ ∀ args P, sp p.1 cls d args P → ts { nx := fun _ => P .non, rt := fun x _ => P x } (startP N.length args)) :
  FnZ P w K mg base (k + 1) f fd ps (fun a cls d => upSp K T (sp a cls d)) := by
 obtain ⟨oc, od, kV, doc, pm, an, cdv, ct, osl, rfl, lk, hcd⟩ := Fn.ex
 refine ⟨fun a cls d => len_sp (hl a cls d), fun A outer s H args us vs Q p cls d hr hz hf hpin e0 hb r hsp => ?_⟩
 have hlen := len_sp (hl p.1 cls d) _ _ _ _ hsp
 have KX : K.In s.heap := e0.mod.kin.keeps fun b o e => (e0.bs b o e).1
 have lim : s.heap.NoLimit := e0.mod.nolimit.keeps fun b o e => (e0.bs b o e).1
 have hkind : ∀ y ∈ ps.zip us, (defScope st).names.lookup y.1 = some .local ∨ ((defScope st).names.lookup y.1 = some .cell ∧ ((cellsFrom (s.heap.objs.size + 1) (defScope st).names []).lookup y.1).isSome = true) := fun ⟨n, v⟩ hy =>
  (S.par n (List.of_mem_zip hy).1).imp id fun q => ⟨q, PySem.W.cellsFrom_some _ _ _ (.inl q)⟩
 refine codeAny_call_function hr.depth (KX _ _ lk) rfl S.co S.gen rfl (PySem.W.codeRec_of KX hcd) (hb _ _ _ _ ?_)
 refine wpAny_newFunctionEnv_cells S.kind hkind fun env he s1 x => ?_
 subst he
 refine ⟨lim.keeps x.toInCall.keep, codeAny_func ?_⟩
 obtain ⟨ts, ht, rd⟩ := hbody cdv A outer s H E0 p cls d ⟨p.2, List.mem_singleton.mpr rfl, hz, hf⟩ (hr.deeper _)
 have hq := body_sp hsp (fun args P hs => by rw [hl _ _ _ _ _ hs]; exact hn) (N := N) rd
 have I := L2H.inv_startH (CX := CX0) (E := E0) S hpin e0 hlen r x
 refine wpAny_mono (ht.nox.run [] s1 (start N vs) H _ I hq) (fun fl s' hs => ?_) fun e s' hs => hs
 have fin : ∀ {σ' : St} {H' : Hp} {v : V} {u : Value}, Inv (L2H.cxH CX0 P w K mg base N qual (defScope st) f cdv A outer s H E0 p) [] σ' H' s' → RelV v u → Q v H' → CE outer P w H s Q u s' :=
  fun {σ' H' v u} J rv q => ⟨v, H', J.os, J.bare, J.base, J.hok, rv, q⟩
 cases fl with
 | ret u =>
  obtain ⟨v, σ', H', J, rv, q⟩ := hs
  exact fin J rv q
 | next =>
  obtain ⟨σ', H', J, q⟩ := hs
  exact fin (v := V.non) (u := Value.none) J rfl q
 | brk => exact False.elim hs.choose_spec.choose_spec.2
 | cont => exact False.elim hs.choose_spec.choose_spec.2
end
section
variable {X : Cx} {T : List (Addr × Str)} {e : Expr} {es : List Expr} {t : TAp} {pos p : Pos} {k : Nat} {f : Addr} {fd : FuncData} {ps : List Str} {sz : SpZ} {x : Str} {a : Addr} {cls : Value} {d : Option Addr}
theorem pe_callZ {S : Addr → Value → Option Addr → Sp} {ta : TA} (F : FnZ X.prog X.w X.K X.mg X.base k f fd ps S) (hr : L2H.RoomH k X.A) (hz : PinX X a cls d) (hg : Gl X x) (hm : X.mg x = some (.ref f)) (hk : PySem.W.keepIn X.K (.ref f) = true) (hb : Binds X.K fd ps [])
  (ha : PA X (e :: es) ta) (hdb : (x == ("__debug__" : Str)) = false := by decide) (he : starEach (e :: es) X.env = (false, eval e X.env) :: starEach es X.env := by rfl) (hpl : (backTo pos (starEach es X.env)).any (·.1) = false := by rfl) :
  PE X (.Call (.Name x p) (e :: es) [] pos) (tCall (S a cls d) [] E0 ta) := by
 constructor
 intro pins s σ H Q I h
 refine wpAny_Call_Name_kw (ld_glob I hg hm ?_ hdb)
 refine PySem.W.callWith_K (h₀ := X.base) I.ok.mod.kin hk (thn (ha.run pos pins s σ H _ I h) fun us s1 hq => ?_) he hpl
 obtain ⟨vs, H1, I1, r, q⟩ := hq
 refine ⟨I1.kIn, ?_⟩
 rw [List.append_nil] at q
 obtain ⟨oe, hp, hzc, hf⟩ := hz
 have hl : us.length = ps.length := by rw [← r.length]; exact F.len _ _ _ _ _ _ _ q
 have b := hb s1 us I1.kIn (by rw [List.append_nil]; exact hl)
 rw [List.append_nil] at b
 have P1 := I1.pin (a, oe) (List.mem_append_left _ hp)
 have hpin : L2H.PinOk X.stack H1 s1 (a, oe) := ⟨P1.1, P1.2.1, fun hm => (List.mem_cons.mp (I1.stkSub a hm)).elim P1.2.2.1 P1.2.2.2.1, P1.2.2.2.2⟩
 refine wpAny_call (codeAny_mono (F.run X.A X.stack s1 H1 ⟨us, []⟩ us vs Q (a, oe) cls d hr hzc hf hpin I1.env0 b r q) fun r s' hq => ?_)
 cases r with
 | error e => exact (show False from hq).elim
 | ok fl =>
  cases fl with
  | ret u => exact I1.after hq
  | next => exact False.elim hq
  | brk => exact False.elim hq
  | cont => exact False.elim hq
theorem z_callZ (F : FnZ X.prog X.w X.K X.mg X.base k f fd ps (fun a cls d => upSp X.K T (sz a cls d))) (hr : L2H.RoomH k X.A) (hz : PinX X a cls d) (hg : Gl X x) (hm : X.mg x = some (.ref f)) (hk : PySem.W.keepIn X.K (.ref f) = true) (hb : Binds X.K fd ps [])
  (ha : PA X (e :: es) (upA X.K T t)) (hdb : (x == ("__debug__" : Str)) = false := by decide) (he : starEach (e :: es) X.env = (false, eval e X.env) :: starEach es X.env := by rfl) (hpl : (backTo pos (starEach es X.env)).any (·.1) = false := by rfl) :
  PE X (.Call (.Name x p) (e :: es) [] pos) (up X.K T (tCallP (sz a cls d) [] t)) :=
 PE.weak (pe_callZ F hr hz hg hm hk hb ha hdb he hpl) fun σ H Q q => call_up (fun _ _ => .nil) q
end
def noSl : Sl → Sl
 | .va x => .va x
 | _ => .no
def noOwn (η : EP') : EP' := η.map noSl
section
variable {K : PySem.W.Frag} {T : List (Addr × Str)} {F : Addr → Prop} {σ : St} {η : EP'} {H H1 : Hp}
theorem noOwn_va {i : Nat} {x : PV} (h : (noOwn η)[i]? = some (.va x)) : η[i]? = some (.va x) := by
 unfold noOwn at h
 rw [List.getElem?_map] at h
 obtain ⟨s, hs, e⟩ := Option.map_eq_some_iff.mp h
 cases s <;> first | (cases e; exact hs) | cases e
theorem noOwn_ow {i : Nat} {o : Ow} (h : (noOwn η)[i]? = some (.ow o)) : False := by
 unfold noOwn at h
 rw [List.getElem?_map] at h
 obtain ⟨s, hs, e⟩ := Option.map_eq_some_iff.mp h
 cases s <;> cases e
theorem not_own {σ : St} {a : Addr} (h : IsOwn σ (noOwn η) a) : False := by
 obtain ⟨i, o, _, e⟩ := h
 exact noOwn_ow e
theorem Rs.none (R : Rs K T F σ η H) : Rs K T (Oof F σ η) σ (noOwn η) H := by
 refine ⟨by unfold noOwn; rw [List.length_map]; exact R.len, fun i x e => ?_, fun i o e => (noOwn_ow e).elim, fun i j o o' a e => (noOwn_ow e).elim, R.trO, R.tb⟩
 obtain ⟨v, h1, h2⟩ := R.va i x (noOwn_va e)
 exact ⟨v, h1, h2.mono fun b z => z.elim id fun z => (not_own z).elim⟩
theorem gr_none {σ' : St} {η' : EP'} (e : Ext σ (noOwn η) σ' η' H H1) : Gr H H1 := ⟨fun b o h t => e.keep b o h (fun z => not_own z) t, e.live⟩
theorem gr_extN (e : LamX.ExtN H H1) : Gr H H1 := ⟨e, fun b n z => n fun o h => Classical.byContradiction fun q => by
 have t : ∀ ps, o ≠ .tbl ps := fun ps y => q ⟨ps, y⟩
 exact z.no (e b o h t) t⟩
theorem Gr.trans {H2 : Hp} (a : Gr H H1) (b : Gr H1 H2) : Gr H H2 := ⟨fun c o h t => b.keep c o (a.keep c o h t) t, fun c n => b.live c (a.live c n)⟩
end
def stZ (f a : Addr) : St := [some (.ref f), some (.ref a)]
def ηZ (f a : Addr) (d : Option Addr) (fs : List (Str × PV)) : EP' := [.va (.raw (.ref f)), .va (.exn a d fs)]
def TTc (K : PySem.W.Frag) (T : List (Addr × Str)) (cs : List Value) (ret : Str) (tsu : Addr → Value → Option Addr → TSp) : (XK → Hp → VK → Prop) → Hp → VK → Prop := fun tl H Q =>
 ∀ f : Addr, tl (fun cls d H' => PySem.W.exmAny K cls cs = some true ∧ ∀ a, H' a = none → upS K T (tsu a cls d) { nx := fun _ H2 => Q .non H2, rt := Q } (stZ f a) H') H
  fun v H' => 2 ≤ sizeLine ∧ ∀ p, H' p = none → Q (.ref p) (upd H' p (.lst [.str ret, v]))
theorem caught_gives {X : Cx} {T : List (Addr × Str)} {Ng : List Str} {x a q ret n : Str} {sg : Scope} {g : Addr} {cdg : Value} {j ek k : Nat} {p1 p2 p3 p5 p6 p7 p8 np : Pos} {elts : List Expr} {cs : List Value} {b₀ : Stmt} {suite : List Stmt} {tsu : Addr → Value → Option Addr → TSp}
  (hN : Ng.Nodup) (h0 : Ng = [a, n]) (hln : sg.names.lookup n = some .local)
  (hc : ∀ (s : Shared) (H : Hp), L2N.NamesL (cxOf CX0 X.prog X.w X.K X.mg X.base Ng x sg g cdg X.A X.stack s H E0).nox elts cs) (hm : L2N.TupM X.prog X.w X.K cs) (hl : cs.length ≤ 1000)
  (hsu : ∀ (s : Shared) (H : Hp), Room (k + 1) (X.A.deeper (envOfC x sg s.heap.objs.size g cdg)) → ∀ (a : Addr) (oe : Obj) (cls : Value) (d : Option Addr) (pn : List (Addr × Obj)), L2.Zc cls d oe → (∃ vs, oe.data = .fields vs) →
   PSs ((cxOf CX0 X.prog X.w X.K X.mg X.base Ng x sg g cdg X.A X.stack s H E0).nox.suite a ((a, oe) :: pn)) (b₀ :: suite) (upS X.K T (tsu a cls d))) :
  L2T.Gives X Ng x sg g cdg [.Try [.Return (some (.List [.Constant (.str ret) j p5, .Call (.Name a p1) [] [] p2] p6)) p3] [.ExceptHandler (some (.Tuple elts ek np)) (some n) (b₀ :: suite) p7] [] [] p8] a q k (TTc X.K T cs ret tsu) := by
 intro f c' s H Q tl hr act hc' h
 subst h0
 refine ⟨_, pss_one (L2T.ps_try_tup_as (X := (cxOf CX0 X.prog X.w X.K X.mg X.base [a, n] x sg g cdg X.A X.stack s H E0).nox) (i := 1) (Wout := fun _ _ _ _ => False)
   (tb := fun W D σ H => ∃ Ech : XK, (∀ cls d H', Ech cls d H' → W cls d σ H') ∧ σ[0]? = some (some (.ref f)) ∧ H c' = some (LamX.CodeO c' q) ∧ tl Ech H fun v H' => 2 ≤ sizeLine ∧ ∀ p, H' p = none → D.rt (.ref p) (upd H' p (.lst [.str ret, v])))
   (ts := fun a cls d => upS X.K T (tsu a cls d)) rfl rfl hN rfl hln (hc s H) hm hl LamX.takes0 (fun W pn xe tk _ => ?_) (hsu s H hr)), ?_⟩
 ·constructor
  intro pins s' σ H' D I h'
  obtain ⟨Ech, h1, h2, h3, h4⟩ := h'
  exact (pss_one (ps_ret (pe_lst (pa_cons pe_str (pa_cons (act W pn xe Ech p1 p2 tk) pa_nil))))).run pins s' σ H' D I ⟨h1, h2, h3, h4⟩
 ·refine ⟨_, fun cls d H' hE => ?_, rfl, hc', h f⟩
  obtain ⟨hx, hs⟩ := hE
  exact ⟨true, hx, fun _ a na => hs a na, fun z => by cases z⟩
def tCaughtP (K : PySem.W.Frag) (cs : List Value) (ret : Str) (te : TXp) (tsu : Addr → Value → Option Addr → TSp) : TEp := fun η P => te (noOwn η) (fun x _ => P (.lst [.str ret, x]) η) fun C fs _ => PySem.W.exmAny K (.ref C) cs = some true ∧
 ∀ (f a : Addr) (d : Option Addr), (fs = [] ∨ d.isSome) → tsu a (.ref C) d { nx := fun _ => P .non η, rt := fun y _ => P y η } (ηZ f a d fs)
theorem caught_up {K : PySem.W.Frag} {T : List (Addr × Str)} {cs : List Value} {ret : Str} {te : TXp} {tsu : Addr → Value → Option Addr → TSp} {σ : St} {H : Hp} {Q : VK} (q : up K T (tCaughtP K cs ret te tsu) σ H Q) :
  LamX.tLam T (TTc K T cs ret tsu) (fun E => upX K T (fun cls d _ H' => E cls d H') te) σ H Q := by
 obtain ⟨F, η, P, R, h, k⟩ := q
 refine ⟨R.tb, fun H1 eN T1 f => ?_⟩
 have g1 := gr_extN eN
 have R1 := R.gr g1 T1
 refine ⟨Oof F σ η, noOwn η, _, _, R1.none, h, fun x η' v H' hp e R' r' => ?_, fun C fs η' d σ' H' hz e R' xa => ?_⟩
 ·have g2 := gr_none e
  have R2 := R1.gr g2 R'.tb
  refine ⟨by decide, fun p hp' => ?_⟩
  have sm := Same.new (o := .lst [.str ret, v]) hp'
  have hr : Reps K (Oof F σ η) H' [.str ret, x] [.str ret, v] := by
   unfold Reps
   exact ⟨.str ret, [v], rfl, by unfold Rep; rfl, by unfold Reps; exact ⟨v, [], rfl, r'.mono fun b z => .inl z, by unfold Reps; rfl⟩⟩
  exact k _ η _ _ hp ((g1.trans g2).ext.trans (.same sm)) (R2.same sm) (rep_newL R2.trO hp' hr)
 ·obtain ⟨hx, hs⟩ := hz
  refine ⟨hx, fun a na => ?_⟩
  have g2 := gr_none e
  have R2 := R1.gr g2 R'.tb
  have x2 : XAt K (Oof F σ η) H' d fs := xa.mono fun b z => .inl z
  have own0 : ∀ b, ¬ IsOwn (stZ f a) (ηZ f a d fs) b := fun b ⟨i, o, _, e⟩ => by
   match i, e with
   | 0, e => cases e
   | 1, e => cases e
   | _ + 2, e => cases e
  have RZ : Rs K T (Oof F σ η) (stZ f a) (ηZ f a d fs) H' := by
   refine ⟨rfl, fun i y e => ?_, fun i o e => ?_, fun i j o o' b e => ?_, R2.trO, R2.tb⟩
   ·match i, e with
    | 0, e => cases e; exact ⟨_, rfl, by unfold Rep; rfl⟩
    | 1, e => cases e; exact ⟨_, rfl, (x2.rep a).mono fun b z => z.elim id fun z => (own0 b z).elim⟩
    | _ + 2, e => cases e
   ·match i, e with
    | 0, e => cases e
    | 1, e => cases e
    | _ + 2, e => cases e
   ·match i, e with
    | 0, e => cases e
    | 1, e => cases e
    | _ + 2, e => cases e
  have gZ : ∀ {σ3 : St} {η3 : EP'} {H3 : Hp}, Ext (stZ f a) (ηZ f a d fs) σ3 η3 H' H3 → Gr H' H3 := fun e => ⟨fun b o h t => e.keep b o h (own0 b) t, e.live⟩
  refine ⟨Oof F σ η, ηZ f a d fs, _, RZ, hs f a d x2.some, fun η3 σ3 H3 q3 e3 R3 => ?_, fun _ _ _ q => q.elim, fun _ _ _ q => q.elim, fun y η3 σ3 v H3 q3 e3 R3 r3 => ?_⟩
  ·have g3 := (g1.trans g2).trans (gZ e3)
   exact k _ η _ _ q3 g3.ext (R.gr g3 R3.tb) rep_non
  ·have g3 := (g1.trans g2).trans (gZ e3)
   exact k _ η _ _ q3 g3.ext (R.gr g3 R3.tb) (r3.mono fun b z => .inl z)
abbrev PrX' := PySem.W.Frag → Addr → (Str → Addr) → List PV → (PV → Prop) → WC → Prop
abbrev PrRX' := PySem.W.Frag → Addr → (Str → Addr) → Ow → List PV → (PV → Ow → Prop) → WC → Prop
def KnT (K : PySem.W.Frag) (x : PV) : Prop := Kn K x ∧ ∀ n s e, x = .tup [n, s, e] → Kn K n ∧ Kn K s ∧ Kn K e ∧ ∀ z, n = .str z → z.length ≤ sizeLine
def latB (e : PV) : PV → Bool
 | .int i => isLat i e
 | _ => false
def isTripB : PV → Bool
 | .tup [n, s, e] => isNm n && (isStn s && latB e s)
 | _ => false
def nmOf : PV → Str
 | .tup (.str w :: _) => w
 | _ => ("" : Str)
def vGoT : Nat → Str → List PV → Nat
 | i, _, [] => i
 | i, b, x :: xs => if i = 24 ∨ isTripB x = false ∨ ¬ b.cps.toList < (nmOf x).cps.toList then i else vGoT (i + 1) (nmOf x) xs
def vNT (xs : List PV) : Nat := vGoT 0 ("" : Str) xs
def seatsB : PV → Bool
 | .int n => decide (1 ≤ n) && decide (n ≤ 20)
 | _ => false
def KnR (K : PySem.W.Frag) (y : PV) : Prop := Kn K y ∧ ∀ xs, y = .tup xs → xs.length ≤ sizeLine ∧ ∀ x ∈ xs, KnT K x
def sp_is_tripE : PrP := fun K _ args P => ∃ x, args = [x] ∧ KnT K x ∧ P (.bl (isTripB x))
def sp_valid_beginningE : PrP := fun K _ args P => ∃ xs, args = [.tup xs] ∧ KnR K (.tup xs) ∧ P (.int (vNT xs))
def sp_check_seatsX : PrX' := fun K _ XC args P Zw => ∃ x, args = [x] ∧ Kn K x ∧ (seatsB x = true → P .non) ∧ (seatsB x = false → Zw (XC ("InvalidSeats" : Str)) [(("value" : Str), x)])
def sp_Line_initX : PrRX' := fun K C XC o args P Zw => ∃ x y, o = .o C [] ∧ args = [x, y] ∧ Kn K x ∧ KnR K y ∧
 (∀ n rs, x = .int n → y = rowsP rs → 1 ≤ n → n ≤ 20 → Rw rs → P .non (.o C (lineF n rs))) ∧
 (seatsB x = false → Zw (XC ("InvalidSeats" : Str)) [(("value" : Str), x)]) ∧
 (seatsB x = true → isTu y = false → Zw (XC ("InvalidTrips" : Str)) [(("index" : Str), .non)]) ∧
 (∀ xs, seatsB x = true → y = .tup xs → vNT xs < xs.length → Zw (XC ("InvalidTrips" : Str)) [(("index" : Str), .int (vNT xs))])
def ts_is_tripE (K : PySem.W.Frag) (CLine : Addr) : TSp := tSeqP (tIfSP (tOrP (tNotP (tBlP (tCBP (rIsI K) (tConsP (tVarP 0) (tConsP (tConP (.raw (.ty "tuple"))) (tNilP)))))) (tBlP (tOpP (rEqI true) (tCBP rLen (tConsP (tVarP 0) (tNilP))) (tConP (.int 3))))) (tRetP (tConP (.bl false))) (tNextP)) (tSeqP (tAsgP (tVarP 0) (gTupP 3 (gConsP (gNameP 1) (gConsP (gNameP 2) (gConsP (gNameP 3) (gNilP)))))) (tRetP (tAndVP (tCallP (sp_is_trip_name K CLine) [] (tConsP (tVarP 1) (tNilP))) (tAndVP (tCallP (sp_is_station K CLine) [] (tConsP (tVarP 2) (tNilP))) (tCallP (sp_is_later K CLine) [] (tConsP (tVarP 3) (tConsP (tVarP 2) (tNilP))))))))
def ts_valid_beginningE (K : PySem.W.Frag) (CLine : Addr) : TSp := tSeqP (tSetP 1 (tConP (.str ("" : Str)))) (tSeqP (tForP (iEnumP (tVarP 0)) (gTupP 2 (gConsP (gNameP 2) (gConsP (gNameP 3) (gNilP)))) (tSeqP (tIfSP (tOrP (tBlP (tOpP (rEqI false) (tVarP 2) (tConP (.int 24)))) (tOrP (tNotP (tBlP (tCallP (sp_is_tripE K CLine) [] (tConsP (tVarP 3) (tNilP))))) (tBlP (tOpP rLe (tOpP rIxP (tVarP 3) (tConP (.int 0))) (tVarP 1))))) (tRetP (tVarP 2)) (tNextP)) (tSetP 1 (tOpP rIxP (tVarP 3) (tConP (.int 0)))))) (tRetP (tCBP rLen (tConsP (tVarP 0) (tNilP)))))
def ts_check_seatsX (K : PySem.W.Frag) (CLine : Addr) (XC : Str → Addr) : TSX := tIfX (tOrP (tNotP (tBlP (tCallP (sp_is_integer K CLine) [] (tConsP (tVarP 0) (tNilP))))) (tNotP (tBlP (tChainP rLe rLe (tConP (.int 1)) (tVarP 0) (tConP (.int 20)))))) (tRaiseX (XC ("InvalidSeats" : Str)) ("value" : Str) (tVarP 0)) (tPlX (tNextP))
def ts_Line_initX (K : PySem.W.Frag) (CLine : Addr) (XC : Str → Addr) : TSX := tSeqX (tExX (tCallX (sp_check_seatsX K CLine XC) [] (tConsP (tVarP 1) (tNilP)))) (tSeqX (tIfX (tNotP (tBlP (tCBP (rIsI K) (tConsP (tVarP 2) (tConsP (tConP (.raw (.ty "tuple"))) (tNilP)))))) (tRaiseX (XC ("InvalidTrips" : Str)) ("index" : Str) (tConP .non)) (tPlX (tNextP))) (tSeqX (tPlX (tSetP 3 (tCallP (sp_valid_beginningE K CLine) [] (tConsP (tVarP 2) (tNilP))))) (tSeqX (tIfX (tBlP (tOpP rLt (tVarP 3) (tCBP rLen (tConsP (tVarP 2) (tNilP))))) (tRaiseX (XC ("InvalidTrips" : Str)) ("index" : Str) (tVarP 3)) (tPlX (tNextP))) (tPlX (tSeqP (tFldSP CLine 0 ("seat_count" : Str) (tVarP 1)) (tSeqP (tFldSP CLine 0 ("rows" : Str) (tVarP 2)) (tFldSP CLine 0 ("queue" : Str) (tCBP rTuple (tConsP (tSortLP 1 0 (tVarP 2)) (tNilP))))))))))
section
variable {K : PySem.W.Frag} {C : Addr} {XC : Str → Addr} {args : List PV} {P : PV → Prop} {PF : List PV → Prop} {PR : PV → Ow → Prop} {o : Ow} {Zw : WC}
theorem len_is_tripE (h : sp_is_tripE K C args P) : args.length = 1 := by obtain ⟨_, rfl, _⟩ := h; rfl
theorem len_valid_beginningE (h : sp_valid_beginningE K C args P) : args.length = 1 := by obtain ⟨_, rfl, _⟩ := h; rfl
theorem len_check_seatsX (h : sp_check_seatsX K C XC args P Zw) : args.length = 1 := by obtain ⟨_, rfl, _⟩ := h; rfl
theorem len_Line_initX (h : sp_Line_initX K C XC o args PR Zw) : args.length = 2 := by obtain ⟨_, _, _, rfl, _⟩ := h; rfl
end
section
variable {K : PySem.W.Frag} {T : List (Addr × Str)} {D : EndsP} {Zw : WZ} {η : EP'} {sp : SpX} {dps : List PV} {t : TAp}
theorem w_seqX1 {t u : TSX} (h : t { D with nx := fun η' => u D Zw η' } Zw η) : tSeqX t u D Zw η := h
theorem w_plX1 {t : TSp} (h : t D η) : tPlX t D Zw η := h
theorem w_ifX1 {c : TTp} {t u : TSX} (h : c η fun b η1 => if b = true then t D Zw η1 else u D Zw η1) : tIfX c t u D Zw η := h
theorem w_raiseX1 {C : Addr} {f : Str} {te : TEp} (h : te η fun y η1 => Zw C [(f, y)] η1) : tRaiseX C f te D Zw η := h
theorem w_exX1 {te : TXp} (h : te η (fun _ η1 => D.nx η1) Zw) : tExX te D Zw η := h
theorem w_callX1 {P : PV → EP' → Prop} (h : t η fun args η1 => sp (args ++ dps) (fun z => P z η1) fun C fs => Zw C fs η1) : tCallX sp dps t η P Zw := h
end
theorem w_enumX {te : TEp} {η : EP'} {QA : List PV → EP' → Prop} (h : te η fun x η1 => match x with
 | .tup xs => QA (enumP xs) η1
 | _ => False) : iEnumP te η QA := h
theorem enumX_len (xs : List PV) : (enumP xs).length = xs.length := by simp [enumP]
theorem trip_of {x : PV} (h : isTripB x = true) : ∃ r : Trip, x = rowP r ∧ isNm (.str r.1) = true ∧ 0 ≤ r.2.1 ∧ r.2.1 < r.2.2 := by
 unfold isTripB at h
 split at h
 ·rename_i n s e
  rw [Bool.and_eq_true, Bool.and_eq_true] at h
  obtain ⟨h1, h2, h3⟩ := h
  cases s with
  | int i =>
   cases n with
   | str w =>
    cases e with
    | int j => exact ⟨(w, i, j), rfl, h1, of_decide_eq_true h2, of_decide_eq_true h3⟩
    | _ => cases h3
   | _ => cases h1
  | _ => cases h3
 ·cases h
theorem nm_row (r : Trip) : nmOf (rowP r) = r.1 := rfl
theorem row_isTrip (r : Trip) : isTripB (rowP r) = (isNm (.str r.1) && (decide (0 ≤ r.2.1) && decide (r.2.1 < r.2.2))) := rfl
theorem valid_le : ∀ (xs : List PV) (i : Nat) (b : Str), vGoT i b xs ≤ i + xs.length
 | [], i, b => Nat.le_refl _
 | x :: xs, i, b => by
  unfold vGoT
  split
  ·omega
  ·have := valid_le xs (i + 1) (nmOf x)
   rw [List.length_cons]; omega
theorem valid_all : ∀ (xs : List PV) (i : Nat) (b : Str), i ≤ 24 → vGoT i b xs = i + xs.length → ∃ rs : List Trip, xs = rs.map rowP ∧ (∀ r ∈ rs, isNm (.str r.1) = true ∧ 0 ≤ r.2.1 ∧ r.2.1 < r.2.2) ∧ Asc rs ∧ i + rs.length ≤ 24 ∧ ∀ r ∈ rs, b.cps.toList < r.1.cps.toList
 | [], i, b, hi, h => ⟨[], rfl, fun _ z => (List.not_mem_nil z).elim, List.Pairwise.nil, hi, fun _ z => (List.not_mem_nil z).elim⟩
 | x :: xs, i, b, hi, h => by
  unfold vGoT at h
  split at h
  ·rw [List.length_cons] at h; omega
  ·rename_i hc
   have h1 : i ≠ 24 := fun z => hc (.inl z)
   have h2 : isTripB x = true := by
    cases e : isTripB x with
    | true => rfl
    | false => exact absurd (.inr (.inl e)) hc
   have h3 : b.cps.toList < (nmOf x).cps.toList := Classical.byContradiction fun z => hc (.inr (.inr z))
   obtain ⟨r, rfl, g1, g2, g3⟩ := trip_of h2
   rw [nm_row] at h h3
   obtain ⟨rs, rfl, e1, e2, e3, e4⟩ := valid_all xs (i + 1) r.1 (by omega) (by rw [h, List.length_cons]; omega)
   refine ⟨r :: rs, rfl, fun q hq => ?_, List.pairwise_cons.mpr ⟨e4, e2⟩, by rw [List.length_cons]; omega, fun q hq => ?_⟩
   ·rcases List.mem_cons.mp hq with rfl | hq
    ·exact ⟨g1, g2, g3⟩
    ·exact e1 q hq
   ·rcases List.mem_cons.mp hq with rfl | hq
    ·exact h3
    ·exact List.lt_trans h3 (e4 q hq)
theorem valid_rw {xs : List PV} (h : vNT xs = xs.length) : ∃ rs, xs = rs.map rowP ∧ Rw rs := by
 obtain ⟨rs, e, h1, h2, h3, _⟩ := valid_all xs 0 _ (by decide) (by rw [Nat.zero_add]; exact h)
 exact ⟨rs, e, ⟨by omega, fun r hr => h1 r hr, h2⟩⟩
theorem valid_done : ∀ (rs : List Trip) (i : Nat) (b : Str), i + rs.length ≤ 24 → (∀ r ∈ rs, isNm (.str r.1) = true ∧ 0 ≤ r.2.1 ∧ r.2.1 < r.2.2) → Asc rs → (∀ r ∈ rs, b.cps.toList < r.1.cps.toList) → vGoT i b (rs.map rowP) = i + rs.length
 | [], i, b, _, _, _, _ => rfl
 | r :: rs, i, b, hl, h1, h2, h3 => by
  obtain ⟨g1, g2, g3⟩ := h1 r List.mem_cons_self
  rw [List.map_cons, List.length_cons]
  unfold vGoT
  rw [List.length_cons] at hl
  have e : isTripB (rowP r) = true := by rw [row_isTrip, g1, decide_eq_true g2, decide_eq_true g3]; rfl
  rw [if_neg (by
   rintro (z | z | z)
   ·omega
   ·rw [e] at z; cases z
   ·exact z (h3 r List.mem_cons_self)), nm_row, valid_done rs (i + 1) r.1 (by omega) (fun q hq => h1 q (List.mem_cons_of_mem _ hq)) (List.pairwise_cons.mp h2).2 (List.pairwise_cons.mp h2).1]
  omega
section
variable {K : PySem.W.Frag} {C : Addr} {XC : Str → Addr} {args : List PV} {P : PV → Prop} {PF : List PV → Prop} {PR : PV → Ow → Prop} {o : Ow} {Zw : WC}
theorem rd_is_tripE (h : sp_is_tripE K C args P) : ts_is_tripE K C { nx := fun _ => P .non, rt := fun x _ => P x } (startP 4 args) := by
 obtain ⟨x, rfl, ⟨hk, h3⟩, hp⟩ := h
 have e : startP 4 [x] = [.va x, .no, .no, .no] := rfl
 rw [e]
 refine w_seq (w_if (w_or (w_not (w_bl (w_cb (w_cons (w_var (x := x) rfl (w_cons (w_con (w_nil (isi_tuple hk ?_)))))))))))
 cases x with
 | tup xs =>
  refine q_iteF (w_bl (w_op (w_cb (w_cons (w_var (x := .tup xs) rfl (w_nil (q_lenT (w_con (q_neN ?_)))))))))
  by_cases c : (xs.length : Int) = 3
  ·rw [decide_eq_true c]
   refine q_iteF (w_next ?_)
   dsimp only
   match xs, c with
   | [n, s, e], _ =>
    obtain ⟨k1, k2, k3, hz⟩ := h3 n s e rfl
    have hp : P (.bl (isNm n && (isStn s && latB e s))) := hp
    refine w_seq (w_asg (w_var (x := .tup [n, s, e]) rfl ⟨rfl, w_g3 ?_⟩))
    simp only [List.set_cons_zero, List.set_cons_succ]
    refine w_ret (w_andV (w_call (w_cons (w_var (x := n) rfl (w_nil ⟨n, rfl, k1, hz, ?_⟩)))))
    cases hn : isNm n with
    | false => rw [hn] at hp; exact hp
    | true =>
     rw [hn, Bool.true_and] at hp
     refine w_andV (w_call (w_cons (w_var (x := s) rfl (w_nil ⟨s, rfl, k2, ?_⟩))))
     cases s with
     | int i =>
      cases hs : isStn (.int i) with
      | false => rw [hs] at hp; exact hp
      | true =>
       rw [hs, Bool.true_and] at hp
       exact w_call (w_cons (w_var (x := e) rfl (w_cons (w_var (x := .int i) rfl (w_nil ⟨e, i, rfl, k3, hp⟩)))))
     | _ => exact hp
   | [], c => simp at c
   | [_], c => simp at c
   | [_, _], c => simp at c
   | _ :: _ :: _ :: _ :: l, c => rw [List.length_cons, List.length_cons, List.length_cons, List.length_cons] at c; omega
  ·rw [decide_eq_false c]
   refine q_iteT (w_ret (w_con ?_))
   have z : isTripB (.tup xs) = false := by
    unfold isTripB
    split
    ·rename_i heq
     cases heq
     exact absurd rfl c
    ·rfl
   rw [z] at hp
   exact hp
 | _ => exact hp
theorem rd_valid_beginningE (h : sp_valid_beginningE K C args P) : ts_valid_beginningE K C { nx := fun _ => P .non, rt := fun x _ => P x } (startP 4 args) := by
 obtain ⟨xs, rfl, ⟨hk, hx⟩, hp⟩ := h
 obtain ⟨hl, hx⟩ := hx xs rfl
 have e : startP 4 [.tup xs] = [.va (.tup xs), .no, .no, .no] := rfl
 rw [e]
 refine w_seq (w_set (w_con ?_))
 simp only [List.set_cons_zero, List.set_cons_succ]
 refine w_seq (w_for (w_enumX (w_var (x := .tup xs) rfl ?_)))
 refine ⟨fun i η => ∃ b s t, η = [.va (.tup xs), .va (.str b), s, t] ∧ vGoT i b (xs.drop i) = vNT xs, ⟨_, _, _, rfl, rfl⟩, ?_, ?_⟩
 ·rintro i x η hi ⟨b, s, t, rfl, hv⟩
  obtain ⟨y, hy, rfl⟩ := enumP_get hi
  have hil : i < xs.length := (List.getElem?_eq_some_iff.mp hy).1
  have hd : xs.drop i = y :: xs.drop (i + 1) := by
   rw [List.drop_eq_getElem_cons hil]
   rw [List.getElem?_eq_getElem hil] at hy
   cases hy; rfl
  rw [hd] at hv
  unfold vGoT at hv
  have hky := hx y (List.mem_of_getElem? hy)
  refine ⟨rfl, rfl, ?_⟩
  simp only [List.set_cons_zero, List.set_cons_succ]
  refine w_seq (w_if (w_or (w_bl (w_op (w_var (x := .int (i : Int)) rfl (w_con (q_eqN ?_)))))))
  have out : vNT xs = i → P (.int (i : Int)) := fun z => by rw [z] at hp; exact hp
  by_cases c1 : (i : Int) = 24
  ·rw [decide_eq_true c1]
   rw [if_pos (.inl (by omega))] at hv
   exact q_iteT (w_ret (w_var (x := .int (i : Int)) rfl (out hv.symm)))
  rw [decide_eq_false c1]
  refine q_iteF (w_or (w_not (w_bl (w_call (w_cons (w_var (x := y) rfl (w_nil ⟨y, rfl, hky, ?_⟩)))))))
  cases ht : isTripB y with
  | false =>
   rw [if_pos (.inr (.inl ht))] at hv
   exact q_iteT (w_ret (w_var (x := .int (i : Int)) rfl (out hv.symm)))
  | true =>
   obtain ⟨r, rfl, g1, g2, g3⟩ := trip_of ht
   rw [nm_row] at hv
   refine q_iteF (w_bl (w_op (w_op (w_var (x := rowP r) rfl (w_con (q_ixT (x := .str r.1) rfl (w_var (x := .str b) rfl (q_leS ?_))))))))
   by_cases c : b.cps.toList < r.1.cps.toList
   ·rw [decide_eq_true c]
    rw [if_neg (by
     rintro (z | z | z)
     ·exact c1 (by omega)
     ·rw [ht] at z; cases z
     ·exact z c)] at hv
    refine q_iteF (w_next ?_)
    dsimp only
    refine w_set (w_op (w_var (x := rowP r) rfl (w_con (q_ixT (x := .str r.1) rfl ?_))))
    simp only [List.set_cons_zero, List.set_cons_succ]
    exact ⟨r.1, _, _, rfl, hv⟩
   ·rw [decide_eq_false c]
    rw [if_pos (.inr (.inr c))] at hv
    exact q_iteT (w_ret (w_var (x := .int (i : Int)) rfl (out hv.symm)))
 ·rintro η ⟨b, s, t, rfl, hv⟩
  dsimp only
  rw [enumX_len, List.drop_length] at hv
  refine w_ret (w_cb (w_cons (w_var (x := .tup xs) rfl (w_nil (q_lenT ?_)))))
  have hv : xs.length = vNT xs := hv
  rw [hv]; exact hp
theorem rd_check_seatsX (h : sp_check_seatsX K C XC args P Zw) : ts_check_seatsX K C XC { nx := fun _ => P .non, rt := fun x _ => P x } (fun C fs _ => Zw C fs) (startP 1 args) := by
 obtain ⟨x, rfl, hk, h1, h2⟩ := h
 have e : startP 1 [x] = [.va x] := rfl
 rw [e]
 refine w_ifX1 (w_or (w_not (w_bl (w_call (w_cons (w_var (x := x) rfl (w_nil ⟨x, rfl, hk, ?_⟩)))))))
 cases x with
 | int n =>
  refine q_iteF (w_not (w_bl (w_chain (w_con (w_var (x := .int n) rfl (q_le ⟨_, rfl, ?_⟩))))))
  by_cases c1 : 1 ≤ n
  ·rw [decide_eq_true c1]
   refine q_iteT (w_con (q_le ?_))
   by_cases c2 : n ≤ 20
   ·rw [decide_eq_true c2]
    exact q_iteF (w_plX1 (w_next (h1 (by show (decide (1 ≤ n) && decide (n ≤ 20)) = true; rw [decide_eq_true c1, decide_eq_true c2]; rfl))))
   ·rw [decide_eq_false c2]
    exact q_iteT (w_raiseX1 (w_var (x := .int n) rfl (h2 (by show (decide (1 ≤ n) && decide (n ≤ 20)) = false; rw [decide_eq_false c2, Bool.and_false]))))
  ·rw [decide_eq_false c1]
   exact q_iteF (q_iteT (w_raiseX1 (w_var (x := .int n) rfl (h2 (by show (decide (1 ≤ n) && decide (n ≤ 20)) = false; rw [decide_eq_false c1, Bool.false_and])))))
 | _ => exact h2 rfl
theorem rd_Line_initX (h : sp_Line_initX K C XC o args PR Zw) : ts_Line_initX K C XC { nx := fun η' => ∃ o', η'[0]? = some (Sl.ow o') ∧ PR .non o', rt := fun x η' => ∃ o', η'[0]? = some (Sl.ow o') ∧ PR x o' } (fun C fs _ => Zw C fs) (startR 4 o args) := by
 obtain ⟨x, y, rfl, rfl, hkx, hky, hok, hs, ht, hv⟩ := h
 have e : startR 4 (.o C []) [x, y] = [.ow (.o C []), .va x, .va y, .no] := rfl
 rw [e]
 have sz : 100 < sizeLine := by decide
 refine w_seqX1 (w_exX1 (w_callX1 (w_cons (w_var (x := x) rfl (w_nil ⟨x, rfl, hkx, fun h1 => ?_, fun h1 => hs h1⟩)))))
 dsimp only
 obtain ⟨n, rfl, n1, n2⟩ : ∃ n, x = .int n ∧ 1 ≤ n ∧ n ≤ 20 := by
  cases x with
  | int n =>
   have h1 : (decide (1 ≤ n) && decide (n ≤ 20)) = true := h1
   rw [Bool.and_eq_true, decide_eq_true_iff, decide_eq_true_iff] at h1
   exact ⟨n, rfl, h1.1, h1.2⟩
  | _ => cases h1
 refine w_seqX1 (w_ifX1 (w_not (w_bl (w_cb (w_cons (w_var (x := y) rfl (w_cons (w_con (w_nil (isi_tuple hky.1 ?_))))))))))
 cases hy : isTu y with
 | false => exact q_iteT (w_raiseX1 (w_con (ht h1 hy)))
 | true =>
  refine q_iteF (w_plX1 (w_next ?_))
  dsimp only
  obtain ⟨xs, rfl⟩ : ∃ xs, y = .tup xs := by
   cases y with
   | tup xs => exact ⟨xs, rfl⟩
   | _ => cases hy
  refine w_seqX1 (w_plX1 (w_set (w_call (w_cons (w_var (x := .tup xs) rfl (w_nil ⟨xs, rfl, hky, ?_⟩))))))
  simp only [List.set_cons_zero, List.set_cons_succ]
  refine w_seqX1 (w_ifX1 (w_bl (w_op (w_var (x := .int (vNT xs)) rfl (w_cb (w_cons (w_var (x := .tup xs) rfl (w_nil (q_lenT (q_lt ?_))))))))))
  by_cases c : ((vNT xs : Int) < (xs.length : Int))
  ·rw [decide_eq_true c]
   exact q_iteT (w_raiseX1 (w_var (x := .int (vNT xs)) rfl (hv xs h1 rfl (by omega))))
  rw [decide_eq_false c]
  refine q_iteF (w_plX1 (w_next ?_))
  dsimp only
  have hle := valid_le xs 0 ("" : Str)
  obtain ⟨rs, rfl, hw⟩ := valid_rw (xs := xs) (by unfold vNT at c ⊢; omega)
  have hl := hw.len
  refine w_plX1 ?_
  refine w_seq (w_fldS (w_var rfl ⟨rfl, by decide, ?_⟩))
  simp only [List.set_cons_zero, List.set_cons_succ, pf1]
  refine w_seq (w_fldS (w_var rfl ⟨rfl, by show 1 < 1000; decide, ?_⟩))
  simp only [List.set_cons_zero, List.set_cons_succ, pf2]
  refine w_fldS (w_cb (w_cons (w_sortL (w_var (x := .tup (rs.map rowP)) rfl ⟨?_, ?_, by rw [List.length_map]; omega, ?_⟩))))
  ·intro y hy
   obtain ⟨r, _, rfl⟩ := List.mem_map.mp hy
   exact ⟨_, .int r.2.1, .str r.1, rfl, rfl, rfl, rfl, rfl⟩
  ·intro d hd d' hd'
   rw [List.map_map] at hd hd'
   obtain ⟨a, _, rfl⟩ := List.mem_map.mp hd
   obtain ⟨b, _, rfl⟩ := List.mem_map.mp hd'
   show PySem.W.alike (.tuple [.int a.2.1, .str a.1]) (.tuple [.int b.2.1, .str b.1]) = true
   simp [PySem.W.alike, PySem.W.alikeAll]
  ·refine w_nil ⟨rfl, by show 2 < 1000; decide, ?_⟩
   simp only [List.set_cons_zero, List.set_cons_succ, pf3]
   exact ⟨_, rfl, hok n rs rfl rfl n1 n2 hw⟩
end
variable {X : Cx}
end Z
namespace Z
open PySem PySem.Spec L2
open PyProof.Rows hiding St
def KeysAre : List DictEntry → List Str → Prop
 | [], [] => True
 | e :: r, k :: ks => (∃ t, e.key = .str k t) ∧ KeysAre r ks
 | _, _ => False
theorem KeysAre.at_ : ∀ {es : List DictEntry} {ks : List Str}, KeysAre es ks → es.length = ks.length ∧ ∀ (i : Nat) (k : Str), ks[i]? = some k → ∃ en t, es[i]? = some en ∧ en.key = .str k t
 | [], [], _ => ⟨rfl, fun i k z => by simp at z⟩
 | e :: r, k :: ks, h => by
  obtain ⟨⟨t, ht⟩, h2⟩ := h
  obtain ⟨h3, h4⟩ := h2.at_
  refine ⟨by rw [List.length_cons, List.length_cons, h3], fun i k' z => ?_⟩
  cases i with
  | zero => simp at z; subst z; exact ⟨e, t, rfl, ht⟩
  | succ i => obtain ⟨en, t', a, b⟩ := h4 i k' (by simpa using z); exact ⟨en, t', by simpa using a, b⟩
 | [], _ :: _, h => h.elim
 | _ :: _, [], h => h.elim
section
variable {X : Cx} {T : List (Addr × Str)} {tg e w : Expr} {es : List Expr} {td : TE} {tw : TEp} {ta : TAp} {d : Addr} {ents : Array DictEntry} {n k i : Nat} {ks : List Str} {S x : Str} {p p1 p2 p3 p4 p5 p6 p7 pos : Pos}
structure HeldS (X : Cx) (k : Nat) (f : Addr) (sp : Sp) : Prop where
 ex : ∃ (fd : FuncData) (ps : List Str), FnOk X.prog X.w X.K X.mg X.base CX0 k f fd ps sp ∧ PySem.W.keepIn X.K (.ref f) = true ∧ Binds X.K fd ps []
end
end Z
namespace Z
open PySem PySem.Spec L2
open PyProof.Rows hiding St
def eqb (k : Bool) (v : Value) : Bool := match v with
 | .bool n => n == k
 | _ => false
theorem vals_bool : ∀ {bs : List Bool} {us : List Value}, Vals (bs.map V.bl) us → us = bs.map Value.bool
 | [], _, h => by cases h; rfl
 | b :: bs, _, h => by
  cases h with
  | cons a t =>
   rw [vals_bool t]
   have : _ = Value.bool b := a
   rw [this]; rfl
theorem eqb_count {k : Bool} : ∀ {bs : List Bool}, (bs.map Value.bool).countP (eqb k) = bs.count k
 | [] => rfl
 | b :: bs => by
  rw [List.map_cons, List.countP_cons, List.count_cons, eqb_count (k := k) (bs := bs)] <;> rfl
section
variable {X : Cx}
def rCntB (K : PySem.W.Frag) : V → List V → Hp → VK → Prop := fun x xs H Q => ∃ (p : Addr) (bs : List Bool) (k : Bool), x = .ref p ∧ xs = [.bl k] ∧ SqL K H p (bs.map V.bl) ∧ Q (.int (bs.count k : Nat)) H
theorem mt_lcountB : MtR X "list.count" (rCntB X.K) := by
 intro pins s σ H x xs v us Q I rx rxs h
 obtain ⟨p, bs, k, rfl, rfl, hs, q⟩ := h
 cases rx
 obtain ⟨u, rfl, ru⟩ := rxs.one
 obtain rfl : u = Value.bool k := ru
 obtain ⟨its, rv, ⟨⟨cls, dd, data, sl⟩, n, ho, hc, hdn, hd⟩, hlen⟩ := I.list hs
 simp only at hc hd
 subst hc hd
 have hi := vals_bool rv
 refine call_meets PySem.F.slot_list_count ⟨_, ho, rfl⟩ PySem.F.entry_list_count (PySem.F.args_list_count_2 _ _)
  (SeqAt.list_countAt p its.toArray n dd sl (.bool k) (eqb k)) ⟨ho, fun y hy => ?_, ?_⟩
 ·rw [hi] at hy
  obtain ⟨b, _, rfl⟩ := List.mem_map.mp (show y ∈ bs.map Value.bool by simpa using hy)
  exact SeqAt.EqAt.bool_bool b k
 have ec : its.toArray.toList.countP (eqb k) = bs.count k := by
  rw [show its.toArray.toList = its from by simp, hi]; exact eqb_count
 refine ⟨.int (bs.count k : Nat), H, I.tok _, ⟨s.toks, ?_⟩, q⟩
 show Value.int ((its.toArray.toList.countP (eqb k) : Nat) : Int) s.toks = Value.int ((bs.count k : Nat) : Int) s.toks
 rw [ec]
end
section
variable {X : Cx} {T : List (Addr × Str)} {e : Expr} {to ti : TEp}
def tCntBP (to ti : TEp) : TEp := fun η P => to η fun x η1 => (∃ xs, x = .lst xs) ∧ ti η1 fun y η2 => ∃ (bs : List Bool) (k : Bool), x = .lst (bs.map .bl) ∧ y = .bl k ∧ P (.int ((bs.count k : Nat) : Int)) η2
theorem reps_bls {K : PySem.W.Frag} {O : Addr → Prop} {H : Hp} : ∀ {bs : List Bool} {vs : List V}, Reps K O H (bs.map .bl) vs → vs = bs.map V.bl
 | [], _, h => h.inv0
 | n :: ns, _, h => by
  obtain ⟨v, us, rfl, r, t⟩ := h.inv
  rw [r.bl_, reps_bls t]; rfl
theorem z_cntB {K0 : PySem.W.Frag} (hK : X.K = K0) (pf : PE X e (tBM K0 "list" (rCntB K0) (up K0 T to) (tCons (up K0 T ti) tNil))) : PE X e (up X.K T (tCntBP to ti)) := by
 subst hK
 refine PE.weak pf fun σ H Q q => ?_
 obtain ⟨F, η, P, R, h, k⟩ := q
 refine ⟨F, η, _, R, h, fun x η1 v H1 h1 e1 R1 r1 => ?_⟩
 obtain ⟨⟨xs, rfl⟩, h1⟩ := h1
 obtain ⟨a, vs, rfl, n, q, rr⟩ := id r1.lst_
 refine ⟨.inl ⟨rfl, vs, SqL.of q⟩, F, η1, _, R1, h1, fun y η2 w H2 h2 e2 R2 r2 => ?_⟩
 obtain ⟨bs, i, e, rfl, h2⟩ := h2
 have r3 := r1.car e2.car
 rw [e] at r3
 obtain ⟨a', vs', e3, n', q', rr'⟩ := r3.lst_
 cases e3
 have e4 := reps_bls rr'
 subst e4
 exact ⟨a, bs, i, rfl, by rw [r2.bl_], SqL.of q', k _ η2 _ H2 h2 (e1.trans e2) R2 rep_int⟩
theorem w_cntB {to ti : TEp} {η : EP'} {P : PV → EP' → Prop} (h : to η fun x η1 => (∃ xs, x = .lst xs) ∧ ti η1 fun y η2 => ∃ (bs : List Bool) (k : Bool), x = .lst (bs.map .bl) ∧ y = .bl k ∧ P (.int ((bs.count k : Nat) : Int)) η2) : tCntBP to ti η P := h
end
end Z
namespace Z
open PySem PySem.Spec L2 GenW
open PyProof.Rows hiding St
section
variable {X : Cx} {T : List (Addr × Str)} {e : Expr} {to ti : TEp}
def tIdxDP (to ti : TEp) : TEp := fun η P => to η fun x η1 => (∃ xs, x = .lst xs) ∧ ti η1 fun y η2 => ∃ (d : PyData) (ds : List PyData) (j : Nat) (z : PyData), toD x = some (.list ds) ∧ toD y = some d ∧ SeqAt.shaped (.list ds) = true ∧ SeqAt.shaped d = true ∧ ds[j]? = some z ∧ PyData.eqv z d = true ∧
 (∀ (m : Nat) (z' : PyData), m < j → ds[m]? = some z' → PyData.eqv z' d = false) ∧ P (.int (j : Int)) η2
theorem z_idxD {K0 : PySem.W.Frag} (hK : X.K = K0) (pf : PE X e (tBM K0 "list" (rIndexD K0) (up K0 T to) (tCons (up K0 T ti) tNil))) : PE X e (up X.K T (tIdxDP to ti)) := by
 subst hK
 refine PE.weak pf fun σ H Q q => ?_
 obtain ⟨F, η, P, R, h, k⟩ := q
 refine ⟨F, η, _, R, h, fun x η1 v H1 h1 e1 R1 r1 => ?_⟩
 obtain ⟨⟨xs, rfl⟩, h1⟩ := h1
 obtain ⟨a, vs, rfl, n, q, rr⟩ := id r1.lst_
 refine ⟨.inl ⟨rfl, vs, SqL.of q⟩, F, η1, _, R1, h1, fun y η2 w H2 h2 e2 R2 r2 => ?_⟩
 obtain ⟨d, ds, j, z, hx, hy, s1, s2, hz, hzj, hno, h2⟩ := h2
 have r3 := r1.car e2.car
 exact ⟨a, w, d, ds, j, z, rfl, rfl, Rep.dp _ _ _ r3 hx, Rep.dp _ _ _ r2 hy, s1, s2, hz, hzj, hno, k _ η2 _ H2 h2 (e1.trans e2) R2 rep_int⟩
end
theorem roomH65 {k : Nat} {A : Around} (h : L2H.RoomH k A) : A.units + 65 < cLine := by have := h.un; omega
theorem roomH_mark {k : Nat} {A : Around} {v : Option Value} (h : Room k A) : L2H.RoomH k (A.mark v) := ⟨h.dp, h.un⟩
theorem strs_reps {K : PySem.W.Frag} {O : Addr → Prop} {H : Hp} : ∀ ys : List Str, Reps K O H (ys.map PV.str) (ys.map V.str)
 | [] => by unfold Reps; rfl
 | y :: ys => by
  rw [List.map_cons, List.map_cons]
  unfold Reps
  exact ⟨.str y, ys.map V.str, rfl, by unfold Rep; rfl, strs_reps ys⟩
section
variable {X : Cx} {T : List (Addr × Str)} {W : WXs} {a b e o : Expr} {es : List Expr} {te ta tb to : TEp} {t : TAp} {pos p apos : Pos} {k : Nat} {f C g : Addr} {fd : FuncData} {ps : List Str} {sp : SpX} {x m : Str}
def tSplitP (to te : TEp) : TEp := fun η P => to η fun x η1 => (∃ z, x = .str z) ∧ te η1 fun y η2 => ∃ a b, x = .str a ∧ y = .str b ∧ (b.length == 0) = false ∧ a.length + 2 ≤ sizeLine ∧ P (.lst ((Txt.split a b).map .str)) η2
def tPartiP (to te : TEp) : TEp := fun η P => to η fun x η1 => (∃ z, x = .str z) ∧ te η1 fun y η2 => ∃ a b, x = .str a ∧ y = .str b ∧ (b.length == 0) = false ∧ a.length ≤ sizeLine ∧ P (.tup [.str (Txt.partition a b).1, .str (Txt.partition a b).2.1, .str (Txt.partition a b).2.2]) η2
theorem z_split {K0 : PySem.W.Frag} (hK : X.K = K0)
  (pf : PE X e (tM1 (fun x xs H Q => ∃ a b, x = .str a ∧ xs = [.str b] ∧ (b.length == 0) = false ∧ a.length + 2 ≤ sizeLine ∧ rNewStrs (Txt.split a b) H Q) (up K0 T to) (up K0 T te))) : PE X e (up K0 T (tSplitP to te)) := by
 subst hK
 refine PE.weak pf fun σ H Q q => ?_
 obtain ⟨F, η, P, R, h, k⟩ := q
 refine ⟨F, η, _, R, h, fun x η1 v H1 h1 e1 R1 r1' => ?_⟩
 obtain ⟨⟨z, rfl⟩, h1⟩ := h1
 cases r1'.str_
 refine ⟨⟨z, rfl⟩, F, η1, _, R1, h1, fun y η2 w H2 h2 e2 R2' rw' => ?_⟩
 obtain ⟨a, b, hx, rfl, hb, hz, hp⟩ := h2
 cases hx
 cases rw'.str_
 exact ⟨z, b, rfl, rfl, hb, hz, fun p hp' => k _ η2 _ _ hp ((e1.trans e2).trans (.same (Same.new hp'))) (R2'.same (Same.new hp')) (rep_newL R2'.trO hp' (strs_reps _))⟩
theorem z_parti {K0 : PySem.W.Frag} (hK : X.K = K0)
  (pf : PE X e (tM1 (fun x xs H Q => ∃ a b, x = .str a ∧ xs = [.str b] ∧ (b.length == 0) = false ∧ a.length ≤ sizeLine ∧
   ∀ p, H p = none → Q (.ref p) (upd H p (.tup [.str (Txt.partition a b).1, .str (Txt.partition a b).2.1, .str (Txt.partition a b).2.2]))) (up K0 T to) (up K0 T te))) : PE X e (up K0 T (tPartiP to te)) := by
 subst hK
 refine PE.weak pf fun σ H Q q => ?_
 obtain ⟨F, η, P, R, h, k⟩ := q
 refine ⟨F, η, _, R, h, fun x η1 v H1 h1 e1 R1 r1' => ?_⟩
 obtain ⟨⟨z, rfl⟩, h1⟩ := h1
 cases r1'.str_
 refine ⟨⟨z, rfl⟩, F, η1, _, R1, h1, fun y η2 w H2 h2 e2 R2' rw' => ?_⟩
 obtain ⟨a, b, hx, rfl, hb, hz, hp⟩ := h2
 cases hx
 cases rw'.str_
 exact ⟨z, b, rfl, rfl, hb, hz, fun p hp' => k _ η2 _ _ hp ((e1.trans e2).trans (.same (Same.new hp'))) (R2'.same (Same.new hp')) (rep_newT R2'.trO hp' (strs_reps [_, _, _]))⟩
theorem fnR_of {CX : CXT} {P : Program} {w : World} {K : PySem.W.Frag} {mg : Str → Option Value} {base : Heap} {S : Sp} (F : FnOk P w K mg base CX k f fd ps S) (hb : Binds K fd ps []) : FnR P w K mg base CX k f S := fun A outer s H us vs Q E hr e0 r h => by
 have KX : K.In s.heap := e0.mod.kin.keeps fun b o e => (e0.bs b o e).1
 have b := hb s us KX (by rw [List.append_nil, ← r.length]; exact F.len _ _ _ _ h)
 rw [List.append_nil] at b
 exact F.run A outer s H ⟨us, []⟩ us vs Q E hr e0 b r h
def tCMetX (C : Addr) (sp : SpX) (ta : TEp) (t : TAp) : TXp := fun η P Zw => ta η fun x η1 => x = .raw (.ref C) ∧ t η1 fun args η2 => sp (.raw (.ref C) :: args) (fun z => P z η2) fun C' fs => Zw C' fs η2
theorem zx_cmeth {mc : Value} {q : Addr} {E : XK} (he : PE X o (up X.K T ta)) (r : ClX.CRead X.K C mc) (c : ClX.CMet X.K C mc m q f) (Fn : FnOk X.prog X.w X.K X.mg X.base (L2.CX X.prog X.w) k f fd ps (upSpX X.K T sp)) (hb : Binds X.K fd ps []) (tk : L2.Takes X (fun cls d _ H => E cls d H)) (hr : Room k X.A)
  (ha : PA X (e :: es) (upA X.K T t)) {pl : Sem Bool} (hst : starEach (e :: es) X.env = (false, eval e X.env) :: starEach es X.env := by rfl) (hpl : (backTo pos (starEach es X.env)).any (·.1) = false := by rfl)
  (ht : eval (.Call (.Attribute o m apos) (e :: es) [] pos) X.env = (do
   let ov ← eval o X.env
   standAt apos.atName
   let (f, first) ← holding [ov] (getMethod ov m pl)
   callWith pos f first (backTo pos (starEach (e :: es) X.env)) (backToKw pos (keywordEach [] X.env))) := by rfl) :
  PE X (.Call (.Attribute o m apos) (e :: es) [] pos) (upX X.K T (fun cls d _ H => E cls d H) (tCMetX C sp ta t)) := by
 refine PE.weak (ClX.pe_cmeth (E := E) he r c (fnR_of Fn hb) hr (L2.passes_call tk fun _ _ _ _ h => h) ha hst hpl ht) fun σ H Q qq => ?_
 obtain ⟨F, η, P, Zw, R, h, k, kx⟩ := qq
 refine ⟨F, η, _, R, h, fun x η1 v H1 h1 e1 R1 r1 => ?_⟩
 obtain ⟨rfl, h1⟩ := h1
 unfold Rep at r1
 subst r1
 refine ⟨rfl, F, η1, _, R1, h1, fun args η2 vs H2 h2 e2 R2 r2 => ?_⟩
 have E2 := e1.trans e2
 refine ⟨Oof F σ η2, _, _, _, R2.trO, R2.tb, ?_, h2, fun z v H3 pz g tb rz => k z η2 v H3 pz (E2.trans g.ext) (R2.gr g tb) rz, fun C' fs d H3 z g tb xa => kx C' fs η2 d σ H3 z (E2.trans g.ext) (R2.gr g tb) xa⟩
 unfold Reps
 exact ⟨_, vs, rfl, by unfold Rep; rfl, r2⟩
end
section
variable {X : Cx} {T : List (Addr × Str)}
theorem z_caught {x n a ret : Str} {st : Stmt} {g c P : Addr} {fd : FuncData} {k j ek : Nat} {params : Arguments} {body : Expr} {scope : Scope} {p lpos pos p1 p2 p3 p5 p6 p7 p8 np : Pos} {elts : List Expr} {cs : List Value} {b₀ : Stmt} {suite : List Stmt} {te : TXp} {tsu : Addr → Value → Option Addr → TSp}
  (Fn : Fun X.K x x st g fd) (S : FnScope [a, n] [a] (defScope st))
  (hbd : defBody st = [.Try [.Return (some (.List [.Constant (.str ret) j p5, .Call (.Name a p1) [] [] p2] p6)) p3] [.ExceptHandler (some (.Tuple elts ek np)) (some n) (b₀ :: suite) p7] [] [] p8])
  (hva : (defScope st).names.lookup a = some .local) (hln : (defScope st).names.lookup n = some .local) (hb : Binds X.K fd [a] []) (hg : Gl X x) (hm : X.mg x = some (.ref g)) (hk : PySem.W.keepIn X.K (.ref g) = true)
  (hc : ∀ (cdv : Value) (s : Shared) (H : Hp), L2N.NamesL (cxOf CX0 X.prog X.w X.K X.mg X.base [a, n] x (defScope st) g cdv X.A X.stack s H E0).nox elts cs) (hm3 : L2N.TupM X.prog X.w X.K cs) (hl : cs.length ≤ 1000)
  (hsu : ∀ (cdv : Value) (s : Shared) (H : Hp), Room (k + 1) (X.A.deeper (envOfC x (defScope st) s.heap.objs.size g cdv)) → ∀ (e : Addr) (oe : Obj) (cls : Value) (d : Option Addr) (pn : List (Addr × Obj)), L2.Zc cls d oe → (∃ vs, oe.data = .fields vs) →
   PSs ((cxOf CX0 X.prog X.w X.K X.mg X.base [a, n] x (defScope st) g cdv X.A X.stack s H E0).nox.suite e ((e, oe) :: pn)) (b₀ :: suite) (upS X.K T (tsu e cls d)))
  (TB : LamX.TabB X.base X.mg c P) (hcode : X.env.code = .ref c) (hmT : (P, X.env.qual ++ "<lambda>") ∈ T) (hu : ∀ q ∈ T, q.1 = P → q.2 = X.env.qual ++ "<lambda>") (hr : Room (k + 2) X.A) (L : LamX.LamS X.env.scope scope) (hdef : defaultsOf params X.env = ([], []))
  (hbind : ∀ (q : Str) (cl : List (Str × Addr)) (pm cv ctv : Value), bindArgs (PySem.W.kla_fn "<lambda>" q params body scope cl pm cv ctv) ⟨[], []⟩ = pure [])
  (hbody : ∀ (A : Around) (outer : List Env) (s : Shared) (H : Hp) (E : XK) (f c' : Addr), Room k (A.deeper (LamX.lamEnv X scope s.heap.objs.size f c')) → PE (LamX.lamCx X A outer s H E scope f c') body (upX X.K T (fun cls d _ H' => E cls d H') te))
  (hdb : (x == ("__debug__" : Str)) = false := by decide) (hd : (a == ("__debug__" : Str)) = false := by decide) (hcd : (a == ("__classdict__" : Str)) = false := by decide) :
  PE X (.Call (.Name x p) [.Lambda params body scope lpos] [] pos) (up X.K T (tCaughtP X.K cs ret te tsu)) := by
 obtain ⟨oc, od, kV, doc, pm, an, cdv, ct, osl, rfl, lk, hcd2⟩ := Fn.ex
 have hG : L2T.Gives X [a, n] x (defScope st) g cdv (defBody st) a (X.env.qual ++ "<lambda>") k (TTc X.K T cs ret tsu) := by
  rw [hbd]
  exact caught_gives S.nd rfl hln (hc cdv) hm3 hl (hsu cdv)
 exact PE.weak (L2T.lamcall (t := fun E => upX X.K T (fun cls d _ H' => E cls d H') te) hg hm hk lk hcd2 hb S rfl (.inl hva) hG TB hcode hmT hu hr L hdef hbind hbody hdb hd hcd) fun σ H Q q => caught_up q
end
abbrev PrZ := PySem.W.Frag → Addr → (Str → Addr) → SpZ
def kindNames : List Str := [("InvalidSeats" : Str), ("InvalidTrips" : Str), ("InvalidName" : Str), ("InvalidSeat" : Str), ("InvalidStation" : Str), ("InvalidPlan" : Str), ("InvalidFixed" : Str), ("InvalidExchange" : Str), ("InvalidNumber" : Str), ("InvalidText" : Str), ("InvalidAction" : Str), ("InvalidCommand" : Str), ("NotALine" : Str), ("Overfull" : Str), ("Full" : Str), ("NameTaken" : Str), ("NotFree" : Str), ("Busy" : Str), ("NothingToUndo" : Str), ("TooManyTrips" : Str), ("TooManyPlans" : Str), ("TooManyEntries" : Str)]
def kindWords : List Str := [("seats" : Str), ("trips" : Str), ("name" : Str), ("seat" : Str), ("station" : Str), ("plan" : Str), ("fixed" : Str), ("exchange" : Str), ("number" : Str), ("text" : Str), ("action" : Str), ("command" : Str), ("notline" : Str), ("overfull" : Str), ("full" : Str), ("taken" : Str), ("notfree" : Str), ("busy" : Str), ("undo" : Str), ("toomanytrips" : Str), ("plans" : Str), ("entries" : Str)]
def kindW (n : Nat) : Str := kindWords.getD n ("" : Str)
def kindFields : List (Option Str) := [some ("value" : Str), some ("index" : Str), some ("name" : Str), some ("seat" : Str), some ("station" : Str), some ("index" : Str), some ("index" : Str), some ("index" : Str), some ("number" : Str), some ("text" : Str), some ("index" : Str), some ("command" : Str), some ("value" : Str), some ("station" : Str), some ("station" : Str), some ("name" : Str), some ("name" : Str), none, none, some ("found" : Str), some ("found" : Str), some ("found" : Str)]
structure KindF (K : PySem.W.Frag) (XC : Str → Addr) (C : Addr) (n : Nat) : Prop where
 e : L2.ExcC K C
 lt : n < 22
 k : ∀ (j : Nat) (s : Str), kindNames[j]? = some s → PySem.W.kitOne K (.ref C) (.ref (XC s)) = some (decide (j = n))
 b1 : PySem.W.kitOne K (.ref C) (.ref (XC ("SeatError" : Str))) = some (decide (n < 13))
 b2 : PySem.W.kitOne K (.ref C) (.ref (XC ("StateError" : Str))) = some (decide (12 < n) && decide (n < 19))
 b3 : PySem.W.kitOne K (.ref C) (.ref (XC ("SizeError" : Str))) = some (decide (18 < n))
 o1 : PySem.W.kitOne K (.ref C) (.type "ValueError") = some (decide (n < 13))
 o2 : PySem.W.kitOne K (.ref C) (.type "LookupError") = some (decide (12 < n) && decide (n < 19))
 o3 : PySem.W.kitOne K (.ref C) (.type "ArithmeticError") = some (decide (18 < n))
def FldF (K : PySem.W.Frag) (C : Addr) (n : Nat) (d : Option Addr) (fs : List (Str × PV)) (ys : List PV) : Prop :=
 (∃ f y, kindFields[n]? = some (some f) ∧ fs = [(f, y)] ∧ ys = [y] ∧ XfN K C f ∧ d.isSome = true) ∨ (kindFields[n]? = some none ∧ fs = [] ∧ ys = [])
def sp_law_kind : PrZ := fun K _ XC a cls d args P => ∃ C fs n, cls = .ref C ∧ args = [.exn a d fs] ∧ KindF K XC C n ∧ P (.str (kindW n))
def sp_law_other_fields : PrZ := fun K _ XC a cls d args P => ∃ C fs n ys, cls = .ref C ∧ args = [.exn a d fs] ∧ KindF K XC C n ∧ FldF K C n d fs ys ∧ n ∈ [3, 8, 9, 11, 17, 18] ∧ P (.lst ys)
def sp_law_fields : PrZ := fun K _ XC a cls d args P => ∃ C fs n ys, cls = .ref C ∧ args = [.exn a d fs] ∧ KindF K XC C n ∧ FldF K C n d fs ys ∧ P (.lst ys)
def ts_law_kind (K : PySem.W.Frag) (CLine : Addr) (XC : Str → Addr) : Addr → Value → Option Addr → TSp := fun a1 cls1 d1 => tSeqP (tSetP 1 (tLstP (tConsP (tCBP (rIsX K a1 cls1 d1) (tConsP (tVarP 0) (tConsP (tConP (.raw (.ref (XC ("InvalidSeats" : Str))))) (tNilP)))) (tConsP (tCBP (rIsX K a1 cls1 d1) (tConsP (tVarP 0) (tConsP (tConP (.raw (.ref (XC ("InvalidTrips" : Str))))) (tNilP)))) (tConsP (tCBP (rIsX K a1 cls1 d1) (tConsP (tVarP 0) (tConsP (tConP (.raw (.ref (XC ("InvalidName" : Str))))) (tNilP)))) (tNilP)))))) (tSeqP (tSetP 1 (tOpP rAdd (tVarP 1) (tLstP (tConsP (tCBP (rIsX K a1 cls1 d1) (tConsP (tVarP 0) (tConsP (tConP (.raw (.ref (XC ("InvalidSeat" : Str))))) (tNilP)))) (tConsP (tCBP (rIsX K a1 cls1 d1) (tConsP (tVarP 0) (tConsP (tConP (.raw (.ref (XC ("InvalidStation" : Str))))) (tNilP)))) (tConsP (tCBP (rIsX K a1 cls1 d1) (tConsP (tVarP 0) (tConsP (tConP (.raw (.ref (XC ("InvalidPlan" : Str))))) (tNilP)))) (tNilP))))))) (tSeqP (tSetP 1 (tOpP rAdd (tVarP 1) (tLstP (tConsP (tCBP (rIsX K a1 cls1 d1) (tConsP (tVarP 0) (tConsP (tConP (.raw (.ref (XC ("InvalidFixed" : Str))))) (tNilP)))) (tConsP (tCBP (rIsX K a1 cls1 d1) (tConsP (tVarP 0) (tConsP (tConP (.raw (.ref (XC ("InvalidExchange" : Str))))) (tNilP)))) (tConsP (tCBP (rIsX K a1 cls1 d1) (tConsP (tVarP 0) (tConsP (tConP (.raw (.ref (XC ("InvalidNumber" : Str))))) (tNilP)))) (tNilP))))))) (tSeqP (tSetP 1 (tOpP rAdd (tVarP 1) (tLstP (tConsP (tCBP (rIsX K a1 cls1 d1) (tConsP (tVarP 0) (tConsP (tConP (.raw (.ref (XC ("InvalidText" : Str))))) (tNilP)))) (tConsP (tCBP (rIsX K a1 cls1 d1) (tConsP (tVarP 0) (tConsP (tConP (.raw (.ref (XC ("InvalidAction" : Str))))) (tNilP)))) (tConsP (tCBP (rIsX K a1 cls1 d1) (tConsP (tVarP 0) (tConsP (tConP (.raw (.ref (XC ("InvalidCommand" : Str))))) (tNilP)))) (tNilP))))))) (tSeqP (tSetP 1 (tOpP rAdd (tVarP 1) (tLstP (tConsP (tCBP (rIsX K a1 cls1 d1) (tConsP (tVarP 0) (tConsP (tConP (.raw (.ref (XC ("NotALine" : Str))))) (tNilP)))) (tConsP (tCBP (rIsX K a1 cls1 d1) (tConsP (tVarP 0) (tConsP (tConP (.raw (.ref (XC ("Overfull" : Str))))) (tNilP)))) (tConsP (tCBP (rIsX K a1 cls1 d1) (tConsP (tVarP 0) (tConsP (tConP (.raw (.ref (XC ("Full" : Str))))) (tNilP)))) (tNilP))))))) (tSeqP (tSetP 1 (tOpP rAdd (tVarP 1) (tLstP (tConsP (tCBP (rIsX K a1 cls1 d1) (tConsP (tVarP 0) (tConsP (tConP (.raw (.ref (XC ("NameTaken" : Str))))) (tNilP)))) (tConsP (tCBP (rIsX K a1 cls1 d1) (tConsP (tVarP 0) (tConsP (tConP (.raw (.ref (XC ("NotFree" : Str))))) (tNilP)))) (tConsP (tCBP (rIsX K a1 cls1 d1) (tConsP (tVarP 0) (tConsP (tConP (.raw (.ref (XC ("Busy" : Str))))) (tNilP)))) (tNilP))))))) (tSeqP (tSetP 1 (tOpP rAdd (tVarP 1) (tLstP (tConsP (tCBP (rIsX K a1 cls1 d1) (tConsP (tVarP 0) (tConsP (tConP (.raw (.ref (XC ("NothingToUndo" : Str))))) (tNilP)))) (tConsP (tCBP (rIsX K a1 cls1 d1) (tConsP (tVarP 0) (tConsP (tConP (.raw (.ref (XC ("TooManyTrips" : Str))))) (tNilP)))) (tConsP (tCBP (rIsX K a1 cls1 d1) (tConsP (tVarP 0) (tConsP (tConP (.raw (.ref (XC ("TooManyPlans" : Str))))) (tNilP)))) (tNilP))))))) (tSeqP (tSetP 1 (tOpP rAdd (tVarP 1) (tLstP (tConsP (tCBP (rIsX K a1 cls1 d1) (tConsP (tVarP 0) (tConsP (tConP (.raw (.ref (XC ("TooManyEntries" : Str))))) (tNilP)))) (tNilP))))) (tSeqP (tSetP 2 (tLstP (tConsP (tCBP (rIsX K a1 cls1 d1) (tConsP (tVarP 0) (tConsP (tConP (.raw (.ref (XC ("SeatError" : Str))))) (tNilP)))) (tConsP (tCBP (rIsX K a1 cls1 d1) (tConsP (tVarP 0) (tConsP (tConP (.raw (.ref (XC ("StateError" : Str))))) (tNilP)))) (tConsP (tCBP (rIsX K a1 cls1 d1) (tConsP (tVarP 0) (tConsP (tConP (.raw (.ref (XC ("SizeError" : Str))))) (tNilP)))) (tNilP)))))) (tSeqP (tSetP 3 (tLstP (tConsP (tCBP (rIsX K a1 cls1 d1) (tConsP (tVarP 0) (tConsP (tConP (.raw (.ty "ValueError"))) (tNilP)))) (tConsP (tCBP (rIsX K a1 cls1 d1) (tConsP (tVarP 0) (tConsP (tConP (.raw (.ty "LookupError"))) (tNilP)))) (tConsP (tCBP (rIsX K a1 cls1 d1) (tConsP (tVarP 0) (tConsP (tConP (.raw (.ty "ArithmeticError"))) (tNilP)))) (tNilP)))))) (tSeqP (tIfSP (tBlP (tOpP (rEqP true) (tCntBP (tVarP 1) (tConP (.bl true))) (tConP (.int 1)))) (tRetP (tConP (.str ("other" : Str)))) (tNextP)) (tSeqP (tSetP 4 (tIdxDP (tVarP 1) (tConP (.bl true)))) (tSeqP (tIfSP (tOrP (tBlP (tOpP (rEqP true) (tVarP 2) (tLstP (tConsP (tOpP rLt (tVarP 4) (tConP (.int 13))) (tConsP (tChainP rLt rLt (tConP (.int 12)) (tVarP 4) (tConP (.int 19))) (tConsP (tOpP rGt (tVarP 4) (tConP (.int 18))) (tNilP))))))) (tBlP (tOpP (rEqP true) (tVarP 3) (tVarP 2)))) (tRetP (tConP (.str ("other" : Str)))) (tNextP)) (tSeqP (tSetP 5 (tConP (.str ("seats trips name seat station plan fixed exchange number text action command notline overfull" : Str)))) (tSeqP (tSetP 5 (tOpP rAdd (tVarP 5) (tConP (.str (" full taken notfree busy undo toomanytrips plans entries" : Str))))) (tRetP (tOpP rIxP (tSplitP (tVarP 5) (tConP (.str (" " : Str)))) (tVarP 4)))))))))))))))))
def ts_law_other_fields (K : PySem.W.Frag) (CLine : Addr) (XC : Str → Addr) : Addr → Value → Option Addr → TSp := fun a1 cls1 d1 => tSeqP (tIfSP (tBlP (tCBP (rIsX K a1 cls1 d1) (tConsP (tVarP 0) (tConsP (tConP (.raw (.ref (XC ("InvalidSeat" : Str))))) (tNilP))))) (tRetP (tLstP (tConsP (tXfP K a1 cls1 d1 ("seat" : Str) (tVarP 0)) (tNilP)))) (tNextP)) (tSeqP (tIfSP (tBlP (tCBP (rIsX K a1 cls1 d1) (tConsP (tVarP 0) (tConsP (tConP (.raw (.ref (XC ("InvalidNumber" : Str))))) (tNilP))))) (tRetP (tLstP (tConsP (tXfP K a1 cls1 d1 ("number" : Str) (tVarP 0)) (tNilP)))) (tNextP)) (tSeqP (tIfSP (tBlP (tCBP (rIsX K a1 cls1 d1) (tConsP (tVarP 0) (tConsP (tConP (.raw (.ref (XC ("InvalidText" : Str))))) (tNilP))))) (tRetP (tLstP (tConsP (tXfP K a1 cls1 d1 ("text" : Str) (tVarP 0)) (tNilP)))) (tNextP)) (tRetP (tIfP (tBlP (tCBP (rIsX K a1 cls1 d1) (tConsP (tVarP 0) (tConsP (tConP (.raw (.ref (XC ("InvalidCommand" : Str))))) (tNilP))))) (tLstP (tConsP (tXfP K a1 cls1 d1 ("command" : Str) (tVarP 0)) (tNilP))) (tLstP (tNilP))))))
def ts_law_fields (K : PySem.W.Frag) (CLine : Addr) (XC : Str → Addr) : Addr → Value → Option Addr → TSp := fun a1 cls1 d1 => tSeqP (tIfSP (tBlP (tCBP (rIsXT K a1 cls1 d1) (tConsP (tVarP 0) (tConsP (tTupP (tConsP (tConP (.raw (.ref (XC ("InvalidTrips" : Str))))) (tConsP (tConP (.raw (.ref (XC ("InvalidPlan" : Str))))) (tConsP (tConP (.raw (.ref (XC ("InvalidFixed" : Str))))) (tConsP (tConP (.raw (.ref (XC ("InvalidExchange" : Str))))) (tConsP (tConP (.raw (.ref (XC ("InvalidAction" : Str))))) (tNilP))))))) (tNilP))))) (tRetP (tLstP (tConsP (tXfP K a1 cls1 d1 ("index" : Str) (tVarP 0)) (tNilP)))) (tNextP)) (tSeqP (tIfSP (tBlP (tCBP (rIsXT K a1 cls1 d1) (tConsP (tVarP 0) (tConsP (tTupP (tConsP (tConP (.raw (.ref (XC ("TooManyTrips" : Str))))) (tConsP (tConP (.raw (.ref (XC ("TooManyPlans" : Str))))) (tConsP (tConP (.raw (.ref (XC ("TooManyEntries" : Str))))) (tNilP))))) (tNilP))))) (tRetP (tLstP (tConsP (tXfP K a1 cls1 d1 ("found" : Str) (tVarP 0)) (tNilP)))) (tNextP)) (tSeqP (tIfSP (tBlP (tCBP (rIsXT K a1 cls1 d1) (tConsP (tVarP 0) (tConsP (tTupP (tConsP (tConP (.raw (.ref (XC ("InvalidName" : Str))))) (tConsP (tConP (.raw (.ref (XC ("NameTaken" : Str))))) (tConsP (tConP (.raw (.ref (XC ("NotFree" : Str))))) (tNilP))))) (tNilP))))) (tRetP (tLstP (tConsP (tXfP K a1 cls1 d1 ("name" : Str) (tVarP 0)) (tNilP)))) (tNextP)) (tSeqP (tIfSP (tBlP (tCBP (rIsXT K a1 cls1 d1) (tConsP (tVarP 0) (tConsP (tTupP (tConsP (tConP (.raw (.ref (XC ("InvalidStation" : Str))))) (tConsP (tConP (.raw (.ref (XC ("Overfull" : Str))))) (tConsP (tConP (.raw (.ref (XC ("Full" : Str))))) (tNilP))))) (tNilP))))) (tRetP (tLstP (tConsP (tXfP K a1 cls1 d1 ("station" : Str) (tVarP 0)) (tNilP)))) (tNextP)) (tSeqP (tIfSP (tBlP (tCBP (rIsXT K a1 cls1 d1) (tConsP (tVarP 0) (tConsP (tTupP (tConsP (tConP (.raw (.ref (XC ("InvalidSeats" : Str))))) (tConsP (tConP (.raw (.ref (XC ("NotALine" : Str))))) (tNilP)))) (tNilP))))) (tRetP (tLstP (tConsP (tXfP K a1 cls1 d1 ("value" : Str) (tVarP 0)) (tNilP)))) (tNextP)) (tRetP (tCallP (sp_law_other_fields K CLine XC a1 cls1 d1) [] (tConsP (tVarP 0) (tNilP))))))))
def ts_law_caught (K : PySem.W.Frag) (CLine : Addr) (XC : Str → Addr) : Addr → Value → Option Addr → TSp := fun a1 cls1 d1 => tRetP (tOpP rAdd (tLstP (tConsP (tCallP (sp_law_kind K CLine XC a1 cls1 d1) [] (tConsP (tVarP 1) (tNilP))) (tNilP))) (tCallP (sp_law_fields K CLine XC a1 cls1 d1) [] (tConsP (tVarP 1) (tNilP))))
section
variable {K : PySem.W.Frag} {C : Addr} {XC : Str → Addr} {args : List PV} {P : PV → Prop} {a : Addr} {cls : Value} {d : Option Addr}
theorem len_law_kind (h : sp_law_kind K C XC a cls d args P) : args.length = 1 := by obtain ⟨_, _, _, _, rfl, _⟩ := h; rfl
theorem len_law_other_fields (h : sp_law_other_fields K C XC a cls d args P) : args.length = 1 := by obtain ⟨_, _, _, _, _, rfl, _⟩ := h; rfl
theorem len_law_fields (h : sp_law_fields K C XC a cls d args P) : args.length = 1 := by obtain ⟨_, _, _, _, _, rfl, _⟩ := h; rfl
end
theorem eqv_self {d : PyData} (h2 : SeqAt.shaped d = true) : PyData.eqv d d = true := by
 unfold SeqAt.shaped at h2
 rw [Bool.and_eq_true] at h2
 exact PySem.SeqAt.eqv_refl d h2.1
theorem q_neSame {x : PV} {d : PyData} {P : PV → Prop} (h1 : toD x = some d) (h2 : SeqAt.shaped d = true) (h : P (.bl false)) : rEqP true x x P := ⟨d, d, h1, h1, h2, h2, by rw [eqv_self h2]; exact h⟩
theorem q_eqSame {x : PV} {d : PyData} {P : PV → Prop} (h1 : toD x = some d) (h2 : SeqAt.shaped d = true) (h : P (.bl true)) : rEqP false x x P := ⟨d, d, h1, h1, h2, h2, by rw [eqv_self h2]; exact h⟩
theorem toDs_bls : ∀ bs : List Bool, toDs (bs.map .bl) = some (bs.map .bool)
 | [] => rfl
 | b :: bs => by rw [List.map_cons, toDs, toDs_bls bs]; rfl
theorem toD_bls (bs : List Bool) : toD (.lst (bs.map .bl)) = some (.list (bs.map .bool)) := by rw [toD, toDs_bls]; rfl
theorem canLay_bls : ∀ bs : List Bool, PyData.canLayAll0 (bs.map .bool) = true
 | [] => rfl
 | b :: bs => by rw [List.map_cons, PyData.canLayAll0, canLay_bls bs]; rfl
theorem depth_bls : ∀ bs : List Bool, PyData.depthAll (bs.map .bool) ≤ 0
 | [] => Nat.le_refl _
 | b :: bs => by
  have := depth_bls bs
  rw [List.map_cons, PyData.depthAll]
  simp only [PyData.depth]
  omega
theorem shaped_bls (bs : List Bool) : SeqAt.shaped (.list (bs.map .bool)) = true := by
 unfold SeqAt.shaped
 have := depth_bls bs
 rw [PyData.canLay0, canLay_bls, Bool.true_and]
 refine decide_eq_true ?_
 rw [PyData.depth]
 omega
def kinds (n : Nat) : List Bool := (List.range 22).map fun j => decide (j = n)
theorem kinds_count : ∀ n, n < 22 → (kinds n).count true = 1 := by decide
theorem kinds_get {n : Nat} (h : n < 22) : ((kinds n).map PyData.bool)[n]? = some (.bool true) := by
 unfold kinds
 rw [List.getElem?_map, List.getElem?_map, List.getElem?_range h]
 simp
theorem kinds_no {n m : Nat} {z : PyData} (h : n < 22) (hm : m < n) (e : ((kinds n).map PyData.bool)[m]? = some z) : PyData.eqv z (.bool true) = false := by
 unfold kinds at e
 rw [List.getElem?_map, List.getElem?_map, List.getElem?_range (by omega)] at e
 have ne : decide (m = n) = false := decide_eq_false (by omega)
 simp only [Option.map_some, ne] at e
 cases e
 rfl
theorem split_kinds : Txt.split (("seats trips name seat station plan fixed exchange number text action command notline overfull" : Str) ++ (" full taken notfree busy undo toomanytrips plans entries" : Str)) (" " : Str) = kindWords := by decide +kernel
theorem w_splitX {to te : TEp} {η : EP'} {P : PV → EP' → Prop} (h : to η fun x η1 => (∃ z, x = .str z) ∧ te η1 fun y η2 => ∃ a b, x = .str a ∧ y = .str b ∧ (b.length == 0) = false ∧ a.length + 2 ≤ sizeLine ∧ P (.lst ((Txt.split a b).map .str)) η2) : tSplitP to te η P := h
theorem cut_mid {n : Nat} {x2 : Bool} (hx2 : (decide (12 < n) && decide (n < 19)) = x2) {η : EP'} {R : PV → EP' → Prop} (h : R (.bl x2) η) : if decide ((12 : Int) < (n : Int)) = true then tConP (.int 19) η fun w η3 => rLt (.int (n : Int)) w fun z' => R z' η3 else R (.bl false) η := by
 by_cases c : (12 : Int) < (n : Int)
 ·rw [decide_eq_true c, if_pos rfl]
  have e : decide ((n : Int) < 19) = x2 := by
   rw [← hx2, decide_eq_true (show 12 < n by omega), Bool.true_and]
   exact decide_eq_decide.mpr (by omega)
  refine w_con (q_lt ?_)
  rw [e]; exact h
 ·rw [decide_eq_false c, if_neg Bool.false_ne_true]
  have e : false = x2 := by
   rw [← hx2, decide_eq_false (show ¬ 12 < n by omega), Bool.false_and]
  rw [e]; exact h
section
variable {K : PySem.W.Frag} {C Ca : Addr} {XC : Str → Addr} {args : List PV} {P Q : PV → Prop} {a : Addr} {cls : Value} {d : Option Addr} {n : Nat} {fs : List (Str × PV)}
theorem q_kX (kf : KindF K XC Ca n) (j : Nat) (s : Str) (hj : kindNames[j]? = some s) (h : Q (.bl (decide (j = n)))) : rIsX K a (.ref Ca) d [.exn a d fs, .raw (.ref (XC s))] Q := ⟨fs, _, Ca, .ref (XC s), _, rfl, rfl, kf.e, rfl, kf.k j s hj, h⟩
theorem q_bX {cv : Value} {x : PV} {b : Bool} (kf : KindF K XC Ca n) (hc : clsVal x = some cv) (hk : PySem.W.kitOne K (.ref Ca) cv = some b) (h : Q (.bl b)) : rIsX K a (.ref Ca) d [.exn a d fs, x] Q := ⟨fs, _, Ca, cv, b, rfl, rfl, kf.e, hc, hk, h⟩
theorem kf_any (kf : KindF K XC Ca n) : ∀ js : List Nat, (∀ j ∈ js, j < 22) → PySem.W.kitAny K (.ref Ca) (js.map fun j => .ref (XC (kindNames.getD j ("" : Str)))) = some (decide (n ∈ js))
 | [], _ => rfl
 | j :: js, h => by
  have hj : kindNames[j]? = some (kindNames.getD j ("" : Str)) := by
   have : j < kindNames.length := h j List.mem_cons_self
   rw [List.getD_eq_getElem?_getD, List.getElem?_eq_getElem this]; rfl
  rw [List.map_cons]
  unfold PySem.W.kitAny
  rw [kf.k j _ hj]
  by_cases c : j = n
  ·rw [decide_eq_true c]
   exact congrArg some (decide_eq_true (by rw [c]; exact List.mem_cons_self)).symm
  ·rw [decide_eq_false c]
   dsimp only
   rw [kf_any kf js fun q hq => h q (List.mem_cons_of_mem _ hq)]
   congr 1
   refine decide_eq_decide.mpr ?_
   rw [List.mem_cons]
   exact ⟨.inr, fun z => z.resolve_left fun y => c y.symm⟩
theorem q_aX (kf : KindF K XC Ca n) (js : List Nat) (hj : ∀ j ∈ js, j < 22) {cs : List PV} (hc : cs = js.map fun j => .raw (.ref (XC (kindNames.getD j ("" : Str))))) (h : Q (.bl (decide (n ∈ js)))) : rIsXT K a (.ref Ca) d [.exn a d fs, .tup cs] Q := by
 refine ⟨fs, cs, Ca, js.map fun j => .ref (XC (kindNames.getD j ("" : Str))), _, rfl, rfl, kf.e, ?_, kf_any kf js hj, h⟩
 rw [hc, List.map_map, List.map_map]
 rfl
theorem rd_law_kind (h : sp_law_kind K C XC a cls d args P) : ts_law_kind K C XC a cls d { nx := fun _ => P .non, rt := fun x _ => P x } (startP 6 args) := by
 obtain ⟨Ca, fs, n, rfl, rfl, kf, hp⟩ := h
 have e : startP 6 [.exn a d fs] = [.va (.exn a d fs), .no, .no, .no, .no, .no] := rfl
 rw [e]
 have sz : 1000 < sizeLine := by decide
 have lt := kf.lt
 refine w_seq (w_set (w_lst (w_cons (w_cb (w_cons (w_var (x := .exn a d fs) rfl (w_cons (w_con (w_nil (q_kX kf 0 _ rfl ?_))))))))))
 refine w_cons (w_cb (w_cons (w_var (x := .exn a d fs) rfl (w_cons (w_con (w_nil (q_kX kf 1 _ rfl ?_)))))))
 refine w_cons (w_cb (w_cons (w_var (x := .exn a d fs) rfl (w_cons (w_con (w_nil (q_kX kf 2 _ rfl ?_)))))))
 refine w_nil ⟨by show 3 ≤ sizeLine; omega, ?_⟩
 simp only [List.set_cons_zero, List.set_cons_succ]
 refine w_seq (w_set (w_op (w_var rfl (w_lst (w_cons (w_cb (w_cons (w_var (x := .exn a d fs) rfl (w_cons (w_con (w_nil (q_kX kf 3 _ rfl ?_))))))))))))
 refine w_cons (w_cb (w_cons (w_var (x := .exn a d fs) rfl (w_cons (w_con (w_nil (q_kX kf 4 _ rfl ?_)))))))
 refine w_cons (w_cb (w_cons (w_var (x := .exn a d fs) rfl (w_cons (w_con (w_nil (q_kX kf 5 _ rfl ?_)))))))
 refine w_nil ⟨by show 3 ≤ sizeLine; omega, q_addLL (by show 3 + 3 ≤ sizeLine; omega) ?_⟩
 simp only [List.set_cons_zero, List.set_cons_succ]
 refine w_seq (w_set (w_op (w_var rfl (w_lst (w_cons (w_cb (w_cons (w_var (x := .exn a d fs) rfl (w_cons (w_con (w_nil (q_kX kf 6 _ rfl ?_))))))))))))
 refine w_cons (w_cb (w_cons (w_var (x := .exn a d fs) rfl (w_cons (w_con (w_nil (q_kX kf 7 _ rfl ?_)))))))
 refine w_cons (w_cb (w_cons (w_var (x := .exn a d fs) rfl (w_cons (w_con (w_nil (q_kX kf 8 _ rfl ?_)))))))
 refine w_nil ⟨by show 3 ≤ sizeLine; omega, q_addLL (by show 6 + 3 ≤ sizeLine; omega) ?_⟩
 simp only [List.set_cons_zero, List.set_cons_succ]
 refine w_seq (w_set (w_op (w_var rfl (w_lst (w_cons (w_cb (w_cons (w_var (x := .exn a d fs) rfl (w_cons (w_con (w_nil (q_kX kf 9 _ rfl ?_))))))))))))
 refine w_cons (w_cb (w_cons (w_var (x := .exn a d fs) rfl (w_cons (w_con (w_nil (q_kX kf 10 _ rfl ?_)))))))
 refine w_cons (w_cb (w_cons (w_var (x := .exn a d fs) rfl (w_cons (w_con (w_nil (q_kX kf 11 _ rfl ?_)))))))
 refine w_nil ⟨by show 3 ≤ sizeLine; omega, q_addLL (by show 9 + 3 ≤ sizeLine; omega) ?_⟩
 simp only [List.set_cons_zero, List.set_cons_succ]
 refine w_seq (w_set (w_op (w_var rfl (w_lst (w_cons (w_cb (w_cons (w_var (x := .exn a d fs) rfl (w_cons (w_con (w_nil (q_kX kf 12 _ rfl ?_))))))))))))
 refine w_cons (w_cb (w_cons (w_var (x := .exn a d fs) rfl (w_cons (w_con (w_nil (q_kX kf 13 _ rfl ?_)))))))
 refine w_cons (w_cb (w_cons (w_var (x := .exn a d fs) rfl (w_cons (w_con (w_nil (q_kX kf 14 _ rfl ?_)))))))
 refine w_nil ⟨by show 3 ≤ sizeLine; omega, q_addLL (by show 12 + 3 ≤ sizeLine; omega) ?_⟩
 simp only [List.set_cons_zero, List.set_cons_succ]
 refine w_seq (w_set (w_op (w_var rfl (w_lst (w_cons (w_cb (w_cons (w_var (x := .exn a d fs) rfl (w_cons (w_con (w_nil (q_kX kf 15 _ rfl ?_))))))))))))
 refine w_cons (w_cb (w_cons (w_var (x := .exn a d fs) rfl (w_cons (w_con (w_nil (q_kX kf 16 _ rfl ?_)))))))
 refine w_cons (w_cb (w_cons (w_var (x := .exn a d fs) rfl (w_cons (w_con (w_nil (q_kX kf 17 _ rfl ?_)))))))
 refine w_nil ⟨by show 3 ≤ sizeLine; omega, q_addLL (by show 15 + 3 ≤ sizeLine; omega) ?_⟩
 simp only [List.set_cons_zero, List.set_cons_succ]
 refine w_seq (w_set (w_op (w_var rfl (w_lst (w_cons (w_cb (w_cons (w_var (x := .exn a d fs) rfl (w_cons (w_con (w_nil (q_kX kf 18 _ rfl ?_))))))))))))
 refine w_cons (w_cb (w_cons (w_var (x := .exn a d fs) rfl (w_cons (w_con (w_nil (q_kX kf 19 _ rfl ?_)))))))
 refine w_cons (w_cb (w_cons (w_var (x := .exn a d fs) rfl (w_cons (w_con (w_nil (q_kX kf 20 _ rfl ?_)))))))
 refine w_nil ⟨by show 3 ≤ sizeLine; omega, q_addLL (by show 18 + 3 ≤ sizeLine; omega) ?_⟩
 simp only [List.set_cons_zero, List.set_cons_succ]
 refine w_seq (w_set (w_op (w_var rfl (w_lst (w_cons (w_cb (w_cons (w_var (x := .exn a d fs) rfl (w_cons (w_con (w_nil (q_kX kf 21 _ rfl ?_))))))))))))
 refine w_nil ⟨by show 1 ≤ sizeLine; omega, q_addLL (by show 21 + 1 ≤ sizeLine; omega) ?_⟩
 simp only [List.set_cons_zero, List.set_cons_succ]
 change tSeqP _ _ _ [.va (.exn a d fs), .va (.lst ((kinds n).map .bl)), .no, .no, .no, .no]
 refine w_seq (w_set (w_lst (w_cons (w_cb (w_cons (w_var (x := .exn a d fs) rfl (w_cons (w_con (w_nil (q_bX kf rfl kf.b1 ?_))))))))))
 refine w_cons (w_cb (w_cons (w_var (x := .exn a d fs) rfl (w_cons (w_con (w_nil (q_bX kf rfl kf.b2 ?_)))))))
 refine w_cons (w_cb (w_cons (w_var (x := .exn a d fs) rfl (w_cons (w_con (w_nil (q_bX kf rfl kf.b3 (w_nil ⟨by show 3 ≤ sizeLine; omega, ?_⟩))))))))
 simp only [List.set_cons_zero, List.set_cons_succ]
 refine w_seq (w_set (w_lst (w_cons (w_cb (w_cons (w_var (x := .exn a d fs) rfl (w_cons (w_con (w_nil (q_bX kf rfl kf.o1 ?_))))))))))
 refine w_cons (w_cb (w_cons (w_var (x := .exn a d fs) rfl (w_cons (w_con (w_nil (q_bX kf rfl kf.o2 ?_)))))))
 refine w_cons (w_cb (w_cons (w_var (x := .exn a d fs) rfl (w_cons (w_con (w_nil (q_bX kf rfl kf.o3 (w_nil ⟨by show 3 ≤ sizeLine; omega, ?_⟩))))))))
 simp only [List.set_cons_zero, List.set_cons_succ]
 obtain ⟨x1, hx1⟩ : ∃ b, decide (n < 13) = b := ⟨_, rfl⟩
 obtain ⟨x2, hx2⟩ : ∃ b, (decide (12 < n) && decide (n < 19)) = b := ⟨_, rfl⟩
 obtain ⟨x3, hx3⟩ : ∃ b, decide (18 < n) = b := ⟨_, rfl⟩
 rw [hx1, hx2, hx3]
 refine w_seq (w_if (w_bl (w_op (w_cntB (w_var (x := .lst ((kinds n).map .bl)) rfl ⟨⟨_, rfl⟩, w_con ⟨kinds n, true, rfl, rfl, w_con ?_⟩⟩)))))
 rw [kinds_count n lt]
 refine show rEqP true (.int 1) (.int 1) _ from q_neSame (d := .int 1) rfl rfl (q_iteF (w_next ?_))
 dsimp only
 refine w_seq (w_set (show tIdxDP _ _ _ _ from w_var (x := .lst ((kinds n).map .bl)) rfl ⟨⟨_, rfl⟩, w_con ⟨.bool true, (kinds n).map .bool, n, .bool true, toD_bls _, rfl, shaped_bls _, rfl, kinds_get lt, rfl, fun m z hm e => kinds_no lt hm e, ?_⟩⟩))
 simp only [List.set_cons_zero, List.set_cons_succ]
 refine w_seq (w_if (w_or (w_bl (w_op (w_var (x := .lst ([x1, x2, x3].map .bl)) rfl (w_lst (w_cons (w_op (w_var (x := .int (n : Int)) rfl (w_con (q_lt ?_)))))))))))
 have g1 : decide ((n : Int) < 13) = x1 := by rw [← hx1]; exact decide_eq_decide.mpr (by omega)
 have g3 : decide ((18 : Int) < (n : Int)) = x3 := by rw [← hx3]; exact decide_eq_decide.mpr (by omega)
 rw [g1]
 have sh := shaped_bls [x1, x2, x3]
 have td := toD_bls [x1, x2, x3]
 have word : kindWords[n]? = some (kindW n) := by
  unfold kindW
  have : n < kindWords.length := lt
  rw [List.getD_eq_getElem?_getD, List.getElem?_eq_getElem this]; rfl
 refine w_cons (w_chain (w_con (w_var (x := .int (n : Int)) rfl (q_lt ⟨_, rfl, ?_⟩))))
 refine cut_mid hx2 ?_
 refine w_cons (w_op (w_var (x := .int (n : Int)) rfl (w_con (q_gt ?_))))
 rw [g3]
 refine w_nil ⟨by show 3 ≤ sizeLine; omega, ?_⟩
 refine q_neSame (x := .lst ([x1, x2, x3].map .bl)) td sh (q_iteF ?_)
 refine w_bl (w_op (w_var (x := .lst ([x1, x2, x3].map .bl)) rfl (w_var (x := .lst ([x1, x2, x3].map .bl)) rfl (q_neSame td sh (q_iteF (w_next ?_))))))
 dsimp only
 refine w_seq (w_set (w_con ?_))
 simp only [List.set_cons_zero, List.set_cons_succ]
 refine w_seq (w_set (w_op (w_var rfl (w_con (q_addS (by decide +kernel) ?_)))))
 simp only [List.set_cons_zero, List.set_cons_succ]
 refine w_ret (w_op (w_splitX (w_var rfl ⟨⟨_, rfl⟩, w_con ⟨_, _, rfl, rfl, by decide +kernel, by decide +kernel, w_var (x := .int (n : Int)) rfl ?_⟩⟩)))
 rw [split_kinds]
 refine q_ix (x := .str (kindW n)) ?_ hp
 have := at_map (f := PV.str) (xs := kindWords) (j := (n : Int)) ("" : Str) (by omega) (by show (n : Int) < 22; omega)
 rw [this, Int.toNat_natCast]; rfl
theorem fld_some {n : Nat} {f : Str} {fs : List (Str × PV)} {ys : List PV} (h : FldF K Ca n d fs ys) (hf : kindFields[n]? = some (some f)) : ∃ y, fs = [(f, y)] ∧ ys = [y] ∧ XfN K Ca f ∧ d.isSome = true := by
 rcases h with ⟨f', y, h1, h2, h3, h4, h5⟩ | ⟨h1, _⟩
 ·rw [hf] at h1
  cases h1
  exact ⟨y, h2, h3, h4, h5⟩
 ·rw [hf] at h1
  cases h1
theorem w_xfX {te : TEp} {η : EP'} {P : PV → EP' → Prop} {f : Str} (h : te η fun x η1 => ∃ fs C y, x = .exn a d fs ∧ cls = .ref C ∧ XfN K C f ∧ d.isSome ∧ fs.lookup f = some y ∧ P y η1) : tXfP K a cls d f te η P := h
theorem fld_one {n : Nat} {f : Str} {fs : List (Str × PV)} {ys : List PV} {R : PV → EP' → Prop} {η : EP'} (h : FldF K Ca n d fs ys) (hf : kindFields[n]? = some (some f)) (e : η[0]? = some (.va (.exn a d fs))) (hR : R (.lst ys) η) : tLstP (tConsP (tXfP K a (.ref Ca) d f (tVarP 0)) tNilP) η R := by
 obtain ⟨y, rfl, rfl, hx, hd⟩ := fld_some h hf
 refine w_lst (w_cons (w_xfX (w_var (x := .exn a d [(f, y)]) e ⟨_, Ca, y, rfl, rfl, hx, hd, by simp [List.lookup], w_nil ⟨by show 1 ≤ sizeLine; decide, hR⟩⟩)))
theorem rd_law_other_fields (h : sp_law_other_fields K C XC a cls d args P) : ts_law_other_fields K C XC a cls d { nx := fun _ => P .non, rt := fun x _ => P x } (startP 1 args) := by
 obtain ⟨Ca, fs, n, ys, rfl, rfl, kf, hf, hn, hp⟩ := h
 have e : startP 1 [.exn a d fs] = [.va (.exn a d fs)] := rfl
 rw [e]
 refine w_seq (w_if (w_bl (w_cb (w_cons (w_var (x := .exn a d fs) rfl (w_cons (w_con (w_nil (q_kX kf 3 _ rfl ?_)))))))))
 by_cases c : 3 = n
 ·rw [decide_eq_true c]
  subst c
  exact q_iteT (w_ret (fld_one hf rfl rfl hp))
 rw [decide_eq_false c]
 refine q_iteF (w_next ?_)
 dsimp only
 refine w_seq (w_if (w_bl (w_cb (w_cons (w_var (x := .exn a d fs) rfl (w_cons (w_con (w_nil (q_kX kf 8 _ rfl ?_)))))))))
 by_cases c8 : 8 = n
 ·rw [decide_eq_true c8]
  subst c8
  exact q_iteT (w_ret (fld_one hf rfl rfl hp))
 rw [decide_eq_false c8]
 refine q_iteF (w_next ?_)
 dsimp only
 refine w_seq (w_if (w_bl (w_cb (w_cons (w_var (x := .exn a d fs) rfl (w_cons (w_con (w_nil (q_kX kf 9 _ rfl ?_)))))))))
 by_cases c9 : 9 = n
 ·rw [decide_eq_true c9]
  subst c9
  exact q_iteT (w_ret (fld_one hf rfl rfl hp))
 rw [decide_eq_false c9]
 refine q_iteF (w_next ?_)
 dsimp only
 refine w_ret (w_ife (w_bl (w_cb (w_cons (w_var (x := .exn a d fs) rfl (w_cons (w_con (w_nil (q_kX kf 11 _ rfl ?_)))))))))
 by_cases c11 : 11 = n
 ·rw [decide_eq_true c11]
  subst c11
  exact q_iteT (fld_one hf rfl rfl hp)
 rw [decide_eq_false c11]
 refine q_iteF (w_lst (w_nil ⟨by show 0 ≤ sizeLine; omega, ?_⟩))
 have h0 : ys = [] := by
  simp only [List.mem_cons, List.not_mem_nil, or_false] at hn
  rcases hf with ⟨f, y, h1, _⟩ | ⟨_, _, h3⟩
  ·rcases hn with z | z | z | z | z | z
   ·exact absurd z.symm c
   ·exact absurd z.symm c8
   ·exact absurd z.symm c9
   ·exact absurd z.symm c11
   ·subst z; cases h1
   ·subst z; cases h1
  ·exact h3
 rw [h0] at hp
 exact hp
theorem rd_law_fields (h : sp_law_fields K C XC a cls d args P) : ts_law_fields K C XC a cls d { nx := fun _ => P .non, rt := fun x _ => P x } (startP 1 args) := by
 obtain ⟨Ca, fs, n, ys, rfl, rfl, kf, hf, hp⟩ := h
 have e : startP 1 [.exn a d fs] = [.va (.exn a d fs)] := rfl
 rw [e]
 have sz : 1000 < sizeLine := by decide
 refine w_seq (w_if (w_bl (w_cb (w_cons (w_var (x := .exn a d fs) rfl (w_cons (w_tup (w_cons (w_con (w_cons (w_con (w_cons (w_con (w_cons (w_con (w_cons (w_con (w_nil ⟨by show 5 ≤ sizeLine; omega, w_nil (q_aX kf [1, 5, 6, 7, 10] (by decide) rfl ?_)⟩))))))))))))))))))
 by_cases c0 : n ∈ [1, 5, 6, 7, 10]
 ·rw [decide_eq_true c0]
  have hk : kindFields[n]? = some (some ("index" : Str)) := by
   simp only [List.mem_cons, List.not_mem_nil, or_false] at c0
   rcases c0 with rfl | rfl | rfl | rfl | rfl <;> rfl
  exact q_iteT (w_ret (fld_one hf hk rfl hp))
 rw [decide_eq_false c0]
 refine q_iteF (w_next ?_)
 dsimp only
 refine w_seq (w_if (w_bl (w_cb (w_cons (w_var (x := .exn a d fs) rfl (w_cons (w_tup (w_cons (w_con (w_cons (w_con (w_cons (w_con (w_nil ⟨by show 3 ≤ sizeLine; omega, w_nil (q_aX kf [19, 20, 21] (by decide) rfl ?_)⟩))))))))))))))
 by_cases c1 : n ∈ [19, 20, 21]
 ·rw [decide_eq_true c1]
  have hk : kindFields[n]? = some (some ("found" : Str)) := by
   simp only [List.mem_cons, List.not_mem_nil, or_false] at c1
   rcases c1 with rfl | rfl | rfl <;> rfl
  exact q_iteT (w_ret (fld_one hf hk rfl hp))
 rw [decide_eq_false c1]
 refine q_iteF (w_next ?_)
 dsimp only
 refine w_seq (w_if (w_bl (w_cb (w_cons (w_var (x := .exn a d fs) rfl (w_cons (w_tup (w_cons (w_con (w_cons (w_con (w_cons (w_con (w_nil ⟨by show 3 ≤ sizeLine; omega, w_nil (q_aX kf [2, 15, 16] (by decide) rfl ?_)⟩))))))))))))))
 by_cases c2 : n ∈ [2, 15, 16]
 ·rw [decide_eq_true c2]
  have hk : kindFields[n]? = some (some ("name" : Str)) := by
   simp only [List.mem_cons, List.not_mem_nil, or_false] at c2
   rcases c2 with rfl | rfl | rfl <;> rfl
  exact q_iteT (w_ret (fld_one hf hk rfl hp))
 rw [decide_eq_false c2]
 refine q_iteF (w_next ?_)
 dsimp only
 refine w_seq (w_if (w_bl (w_cb (w_cons (w_var (x := .exn a d fs) rfl (w_cons (w_tup (w_cons (w_con (w_cons (w_con (w_cons (w_con (w_nil ⟨by show 3 ≤ sizeLine; omega, w_nil (q_aX kf [4, 13, 14] (by decide) rfl ?_)⟩))))))))))))))
 by_cases c3 : n ∈ [4, 13, 14]
 ·rw [decide_eq_true c3]
  have hk : kindFields[n]? = some (some ("station" : Str)) := by
   simp only [List.mem_cons, List.not_mem_nil, or_false] at c3
   rcases c3 with rfl | rfl | rfl <;> rfl
  exact q_iteT (w_ret (fld_one hf hk rfl hp))
 rw [decide_eq_false c3]
 refine q_iteF (w_next ?_)
 dsimp only
 refine w_seq (w_if (w_bl (w_cb (w_cons (w_var (x := .exn a d fs) rfl (w_cons (w_tup (w_cons (w_con (w_cons (w_con (w_nil ⟨by show 2 ≤ sizeLine; omega, w_nil (q_aX kf [0, 12] (by decide) rfl ?_)⟩))))))))))))
 by_cases c4 : n ∈ [0, 12]
 ·rw [decide_eq_true c4]
  have hk : kindFields[n]? = some (some ("value" : Str)) := by
   simp only [List.mem_cons, List.not_mem_nil, or_false] at c4
   rcases c4 with rfl | rfl <;> rfl
  exact q_iteT (w_ret (fld_one hf hk rfl hp))
 rw [decide_eq_false c4]
 refine q_iteF (w_next ?_)
 dsimp only
 refine w_ret (w_call (w_cons (w_var (x := .exn a d fs) rfl (w_nil ⟨Ca, fs, n, ys, rfl, rfl, kf, hf, ?_, hp⟩))))
 have := kf.lt
 simp only [List.mem_cons, List.not_mem_nil, or_false] at c0 c1 c2 c3 c4 ⊢
 omega
theorem caught_ok {K : PySem.W.Frag} {C Ca : Addr} {XC : Str → Addr} {n : Nat} {f e : Addr} {d : Option Addr} {fs : List (Str × PV)} {ys : List PV} {D : EndsP} (kf : KindF K XC Ca n) (hf : FldF K Ca n d fs ys) (hl : ys.length ≤ 1000) (h : ∀ η, D.rt (.lst (.str (kindW n) :: ys)) η) : ts_law_caught K C XC e (.ref Ca) d D (ηZ f e d fs) := by
 have sz : 2000 < sizeLine := by decide
 refine w_ret (w_op (w_lst (w_cons (w_call (w_cons (w_var (x := .exn e d fs) rfl (w_nil ⟨Ca, fs, n, rfl, rfl, kf, w_nil ⟨by show 1 ≤ sizeLine; omega, ?_⟩⟩)))))))
 refine w_call (w_cons (w_var (x := .exn e d fs) rfl (w_nil ⟨Ca, fs, n, ys, rfl, rfl, kf, hf, q_addLL (by show 1 + ys.length ≤ sizeLine; omega) ?_⟩)))
 exact h _
end
end Z
namespace L2N
open PySem PySem.Spec PyProof.Rows L2
section
variable {X : Cx} {n : Str} {cs : List Value} {elts : List Expr} {ek : Nat} {i : Nat} {body suite : List Stmt} {b₀ : Stmt} {np pos pos' : Pos} {tb : WX → TS} {ts : Addr → Value → Option Addr → TS} {Wout : WX}
theorem takesN (tk : L2.Takes X Wout) : Takes X Wout := fun u s' ⟨a, B, sI, pins, σ, H, cls, d, e, I, nb, up, sky, na, os, ag, w⟩ => tk u s' ⟨a, B, sI, pins, σ, H, cls, d, e, I, nb, up, by
 rcases sky with ⟨h1, h2, h3, oe, vs, h4, h5, h6⟩ | fl | ⟨k1, k2, k3, k4⟩
 ·exact .inl ⟨h1, h2, h3, oe, vs, h4, h5.zc, h6⟩
 ·exact .inr (.inl (L2H.flyingZ_imp (fun o z => z.zc) fl))
 ·exact .inr (.inr ⟨k1, k2, k3, L2H.tracedZ_imp (fun o z => z.zc) k4⟩), na, os, ag, w⟩
theorem ps_try_tupR (hs : X.stack = X.env :: X.outer) (hf : X.env.frame = some X.env.locals) (hc : NamesL X elts cs) (hm : TupM X.prog X.w X.K cs) (hl : cs.length ≤ 1000) (hpa : ∀ hd : Option Value, PassesOwnAt (model X.prog X.w) (X.A.mark hd) X.A X.env X.xe) (tk : L2.Takes X Wout)
  (hb : ∀ (W : WX) (pn : List (Addr × Obj)) (xe : Value → Shared → Prop), Takes (X.tr pn xe) W → PassesOwn (model X.prog X.w) X.A X.env xe → PSs (X.tr pn xe) body (tb W))
  (hsu : ∀ (a : Addr) (oe : Obj) (cls : Value) (d : Option Addr) (pn : List (Addr × Obj)), Zn cls d oe → (∃ vs, oe.data = .fields vs) → L2.Takes (L2H.suiteX X a ((a, oe) :: pn)) Wout → L2H.HotC (L2H.suiteX X a ((a, oe) :: pn)) →
   PSs (L2H.suiteX X a ((a, oe) :: pn)) (b₀ :: suite) (ts a cls d)) :
  PS X (.Try body [.ExceptHandler (some (.Tuple elts ek np)) none (b₀ :: suite) pos'] [] [] pos) (fun D σ H => tb (wTupO X.K cs ts Wout D) D σ H) := by
 refine ⟨fun pins s σ H D I h => ?_⟩
 have ok := I.ok
 have hfr : X.A.frames = some (X.env :: X.outer) := by rw [ok.frames, hs]
 refine wpAny_Try_except ?_
 refine wpAny_mono ((hb (wTupO X.K cs ts Wout D) (X.pn ++ pins) (fun e s₁ => wpAny (model X.prog X.w) X.A (noteFrame e X.env) (fun _ s₂ => wpAny (model X.prog X.w) X.A (setFlight e none) (fun _ s₃ =>
  wpAny (model X.prog X.w) X.A (handleBy e X.env [.ExceptHandler (some (.Tuple elts ek np)) none (b₀ :: suite) pos']) (SP X pins D) X.xe s₃) X.xe s₂) X.xe s₁) (fun u s' xx => ?_) PassesOwn.looking).run [] s σ H D (I.toTry _) h) (fun f s1 hsp => ?_) (fun e s1 he => he)
 ·-- the catch
  obtain ⟨a, B, sI, pins', σ', H', cls, d, rfl, J', nb, up, sky, na, os, ag, b, hb1, hyes, hno⟩ := xx
  have J : Inv X pins σ' H' sI := J'.ofTry ok
  have sky' : Sky B (X.env :: X.outer) a (Zn cls d) X.env.locals s'.heap := by rw [← hs]; exact sky
  show wpAny (model X.prog X.w) X.A (noteFrame (.ref a) X.env) _ _ _
  refine Sky.land Zn.steady hfr hf sky' fun h3' fl3' up3' => ?_
  have J3' : Inv X pins σ' H' { s' with heap := h3' } := J.landed nb fl3'.1 (up.trans up3') os ag
  obtain ⟨oe3, vs3, he3', hz3, hd3⟩ := fl3'.there
  have notFr : ∀ {h : Heap} {o : Obj} {vs : Array Value}, h.FunFrames B (X.env :: X.outer) → h.get? a = some o → o.data = .fields vs → a ∉ frs (X.env :: X.outer) := fun {h o vs} ff e dd hm => by
   obtain ⟨_, o', e', hnf⟩ := ff.mem hm
   rw [e] at e'; cases e'
   exact hnf _ dd
  have nfr := notFr fl3'.2.2.1 he3' hd3
  have nL : a ≠ X.env.locals := fun z => nfr (List.mem_filterMap.mpr ⟨X.env, List.mem_cons_self, by rw [hf, z]⟩)
  have nF : a ∉ X.fs := fun hm => by
   obtain ⟨e, he, q⟩ := List.mem_filterMap.mp hm
   exact nfr (List.mem_filterMap.mpr ⟨e, List.mem_cons_of_mem _ he, q⟩)
  have S3' := J3'.suite he3' hd3 na nL nF
  refine wpAny_handleBy_cons (codeAny_handlers_test ?_) (by intro q; cases q)
  refine Tuple_ (evalNames S3' hc ?_)
  refine wpAny_newObj_type ?_ (by show cs.toArray.size ≤ sizeLine; rw [List.size_toArray, sizeLine_eq]; omega)
  let h3 : Heap := h3'.push { cls := .type "tuple", dict := none, data := .seq cs.toArray }
  have kp : ∀ b o, h3'.get? b = some o → h3.get? b = some o := fun b o e => Heap.get?_push_of_some _ e
  have fl3 : HandSPX.FlyingZ B (X.env :: X.outer) a (Zn cls d) h3 := flying_keep kp fl3'
  have up3 : s'.heap.UpToSlots h3 := up3'.trans (Heap.UpToSlots.of_keeps kp)
  have J3 : Inv X pins σ' H' { s' with heap := h3 } := J.landed nb fl3.1 (up.trans up3) os ag
  have he3 := kp _ _ he3'
  have LT : PySem.W.Looks (model X.prog X.w) h3 (typeOf (.ref a)) cls := fun A Q E s k q => wpAny_typeOf_ref (k _ _ he3) (by rw [hz3.1]; exact q)
  have LM := hm J3.kIn LT (Heap.get?_push_size _ rfl) hb1
  show wpAny _ _ _ _ _ { s' with heap := h3 }
  refine LM.here ?_
  cases b with
  | true =>
   refine codeAny_handlers_suite ?_
   refine HandSPX.lands_againZ fl3 fun h4 fl4 up4 => ?_
   have J4 : Inv X pins σ' H' { s' with heap := h4 } := J.landed nb fl4.1 ((up.trans up3).trans up4) os ag
   obtain ⟨oe4, vs4, he4, hz4, hd4⟩ := fl4.there
   have S4 := J4.suite he4 hd4 na nL nF
   have tkS : L2.Takes (L2H.suiteX X a ((a, oe4) :: (X.pn ++ pins))) Wout := fun u2 s2 x2 => by
    obtain ⟨a2, B2, sI2, pn2, σ2, H2, cls2, d2, e2, I2, nb2, up2, sky2, na2, os2, ag2, w2⟩ := x2
    exact tk u2 s2 ⟨a2, B2, sI2, pins, σ2, H2, cls2, d2, e2, L2H.unsuiteX I2 ok, nb2, up2, sky2, na2, os2, ag2, w2⟩
   have hot : L2H.HotC (L2H.suiteX X a ((a, oe4) :: (X.pn ++ pins))) := ⟨(a, oe4), ⟨rfl, vs4, hd4, hz4.2.2 vs4 hd4⟩, List.mem_cons_self⟩
   refine wpAny_mono ((hsu a oe4 cls d (X.pn ++ pins) hz4 ⟨_, hd4⟩ tkS hot).run [] _ _ H' _ (L2H.suiteX_of S4) (hyes rfl a na)) (fun f s6 hsp => ?_) (fun e6 s6 z => hpa (some (.ref a)) e6 s6 z)
   cases f with
   | next =>
    obtain ⟨σ6, H6, S6, q6⟩ := hsp
    exact ⟨_, _, L2H.unsuiteX S6 ok, q6⟩
   | brk =>
    obtain ⟨σ6, H6, S6, q6⟩ := hsp
    exact ⟨_, _, L2H.unsuiteX S6 ok, q6⟩
   | cont =>
    obtain ⟨σ6, H6, S6, q6⟩ := hsp
    exact ⟨_, _, L2H.unsuiteX S6 ok, q6⟩
   | ret u =>
    obtain ⟨v6, σ6, H6, S6, r6, q6⟩ := hsp
    exact ⟨_, _, _, L2H.unsuiteX S6 ok, r6, q6⟩
  | false =>
   show wpAny _ X.A (handleBy (.ref a) X.env []) _ _ _
   refine wpAny_handleBy_nil ?_
   obtain ⟨k1, k2, k3, oe, vs, T, oT, ts', he, hz, hd, h1, hr⟩ := id fl3
   unfold PySem.passOn
   refine wpAny_bind (wpAny_field he hd h1 ?_)
   rw [if_neg (show ¬ ((Value.ref T == Value.none) = true) from by simp)]
   have fin : wpAny (model X.prog X.w) X.A (setFlight (.ref a) X.env.frame) (fun _ s4 => wpAny (model X.prog X.w) X.A (throw (.ref a) : Sem Flow) (SP X pins D) X.xe s4) X.xe { s' with heap := h3 } := by
    rw [hf]
    refine HandSPX.setFlight_upZ (L2H.flyingZ_imp (fun o z => z.zc) fl3) fun h4 hh4 up4 => wpAny_throw (tk _ _ ?_)
    exact ⟨a, B, sI, pins, σ', H', cls, d, rfl, J, nb, (up.trans up3).trans up4, .inr (.inr (by rw [hs]; exact hh4)), na, os, ag, hno rfl⟩
   first
    | exact wpAny_bind (wpAny_pure (wpAny_bind fin))
    | exact wpAny_bind fin
 ·cases f with
  | next =>
   obtain ⟨σ', H', J', q⟩ := hsp
   exact wpAny_execs_nil ⟨σ', H', J'.ofTry ok, q⟩
  | brk =>
   obtain ⟨σ', H', J', q⟩ := hsp
   exact ⟨σ', H', J'.ofTry ok, q⟩
  | cont =>
   obtain ⟨σ', H', J', q⟩ := hsp
   exact ⟨σ', H', J'.ofTry ok, q⟩
  | ret u =>
   obtain ⟨v, σ', H', J', r, q⟩ := hsp
   exact ⟨v, σ', H', J'.ofTry ok, r, q⟩
end
end L2N
namespace ZX
open PySem PySem.Spec PyProof.Rows L2
section
variable {X : Cx} {C fI cc cda : Addr} {B i newId : String} {bmB : List Value} {fld : Str} {fd : FuncData}
theorem pmk5_X {x : Str} {p pos : Pos} {e : Expr} {es : List Expr} {ta : TA} (BX : BaseX B i newId bmB) (Y : XInit X.prog X.K C fI cc cda fld B i newId bmB fd) (T : XCl X.K C fI) (hsup : X.mg "super" = none) (hr : L2H.RoomH 1 X.A) (hg : Gl X x) (hm : X.mg x = some (.ref C)) (ha : PA X (e :: es) ta)
  (hdb : (x == ("__debug__" : Str)) = false := by decide) (he : starEach (e :: es) X.env = (false, eval e X.env) :: starEach es X.env := by rfl) (hpl : (backTo pos (starEach es X.env)).any (·.1) = false := by rfl) :
  L2H.PMk5 X (.Call (.Name x p) (e :: es) [] pos) (tMkX C fld ta) := by
 intro pins s σ H Q I h
 refine wpAny_Call_Name_kw (ld_glob I hg hm ?_ hdb)
 refine PySem.W.callWith_K (h₀ := X.base) I.ok.mod.kin T.kC (thn (ha.run pos pins s σ H _ I h) fun us s1 ⟨vs, H1, I1, r1, v, ev, q1⟩ => ⟨I1.kIn, ?_⟩) he hpl
 show wpAny _ _ (call (.ref C) us) _ _ _
 subst ev
 cases r1 with
 | @cons _ u _ ur ra rr =>
 cases rr
 obtain ⟨hp, g, dr, tk, os⟩ := s1
 obtain ⟨nm, N', qn, bs, bm, hdct, sn, sub, ab, col, dd, k0, k1, k2, k3, k5, hC, hT⟩ := PySem.W.excInit_of I1.kIn Y.ini
 have kk : ∀ b o, hp.get? b = some o → ((hp.push (PySem.W.kdv_tup [u])).push (PySem.HandSPX.excO C hp.objs.size)).get? b = some o := fun b o e => Heap.get?_push_of_some _ (Heap.get?_push_of_some _ e)
 have hget : ((hp.push (PySem.W.kdv_tup [u])).push (PySem.HandSPX.excO C hp.objs.size)).get? (hp.objs.size + 1) = some (PySem.HandSPX.excO C hp.objs.size) := by heap_get
 obtain ⟨mb, hb1, hb2⟩ := I1.ok.mod.blt
 have nK : X.K.lookup (hp.objs.size + 1) = none := by
  cases z : X.K.lookup (hp.objs.size + 1) with
  | none => rfl
  | some o => exact absurd (Heap.lt_size (I1.kIn _ _ z)) (by show ¬ (hp.objs.size + 1 < hp.objs.size); omega)
 refine wpAny_call (PySem.HandSPX.call_own BX.FB hT hC (PySem.W.looks_findIn I1.kIn T.iC) (fun self => PySem.W.bind_fn I1.kIn self T.tI) (by rw [sizeLine_eq]; simp) ?_)
 have bk : ∀ b o, X.base.get? b = some o → hp.get? b = some o := I1.bk
 refine init_run (mg := X.mg) (mb := mb) BX Y (fun b o e => kk b o (I1.kIn b o e)) (I1.ok.mod.glob.keeps fun b o e => kk b o (bk b o e)) (hb1.keeps fun b o e => kk b o (bk b o e)) ((hb2 _ (by decide)).trans (by decide +kernel)) hsup (I1.ok.mod.nolimit.keeps fun b o e => kk b o (bk b o e)) ?_ hget nK ?_
 ·exact (roomH_make hr C [u]).depth
 ·intro h' t' dx es0 n0 tk0 k1 e1 e2 e3 e4
  obtain ⟨nd, ld0⟩ := e3
  have ld : hp.objs.size + 1 < dx := ld0
  obtain ⟨tk1, e4⟩ := e4
  obtain ⟨e5, e6⟩ := Prod.mk.inj e4
  refine ⟨rfl, ?_⟩
  have hsz : hp.objs.size ≤ dx := by omega
  have hn : H1 dx = none := I1.hok.fresh hsz
  have na : H1 (hp.objs.size + 1) = none := I1.hok.fresh (by show hp.objs.size ≤ hp.objs.size + 1; omega)
  obtain ⟨G, g1, g2⟩ := restrict h' fun b => decide (b ≠ hp.objs.size + 1)
  have gk : ∀ b, b ≠ hp.objs.size + 1 → G.get? b = h'.get? b := fun b hb => g1 b (decide_eq_true hb)
  have ge : G.get? (hp.objs.size + 1) = none := g2 _ (by simp)
  have kG : ∀ b o, hp.get? b = some o → G.get? b = some o := fun b o e => by
   have nb : b ≠ hp.objs.size + 1 := Nat.ne_of_lt (Nat.lt_succ_of_lt (Heap.lt_size e))
   rw [gk b nb]
   exact k1 b o nb (kk b o e)
  have hdx : G.get? dx = some (PySem.W.dictOf es0 n0) := (gk dx (by omega)).trans e2
  have hns : G.Ns1 dx (fun y => if y = fld then some u else none) := by
   have z : es0 = [⟨PyData.keyHash X.w.params fld, .str fld tk1, u⟩] := by rw [← e5]; rfl
   rw [z] at hdx
   exact ns1_one hdx
  have J : Inv X pins σ (upd H1 dx (.xd [(fld, v)])) ⟨G, g, dr, tk0, os⟩ := I1.laid (t' := tk0) (a := dx) (o := .xd [(fld, v)]) (h' := G) kG hsz ⟨_, hns, fun f => by
   by_cases q : f = fld
   ·subst q
    simp [List.lookup]
    exact ra
   ·have q' : (f == fld) = false := by simpa using q
    simp [List.lookup, q, q']
    exact True.intro⟩
  refine ⟨⟨hp.objs.size + 1, _, _, ⟨G, g, dr, tk0, os⟩, _, .ref C, some dx, rfl, J, fun b o z => ?_, ge, e1, ⟨rfl, rfl, fun vs q => by cases q; rfl⟩, rfl, rfl, ?_, rfl, J.bare, raises_own T.exC T.tyC, q1 dx hn⟩, fun a oe vs ea hg hd => ?_⟩
  ·by_cases hb : b = hp.objs.size + 1
   ·rw [hb, ge] at z
    cases z
   ·exact (gk b hb).symm.trans z
  ·rw [upd_ne (by show hp.objs.size + 1 ≠ dx; omega)]
   exact na
  ·cases ea
   have hg : h'.get? (hp.objs.size + 1) = some oe := hg
   rw [e1] at hg
   cases hg
   cases hd
   show 4 < 6
   decide
end
end ZX
namespace Z
open PySem PySem.Spec L2
open PyProof.Rows hiding St
section
variable {X : Cx} {T : List (Addr × Str)} {W : WXs} {a b e o : Expr} {es : List Expr} {te ta tb : TEp} {t : TAp} {tf : TFp} {pos pos' p apos cpos np : Pos} {k : Nat} {f C : Addr} {fd : FuncData} {ps : List Str} {sp : SpX} {sr : SpRX} {x m : Str}
theorem new_upX {dvs : List V} {dps : List PV} (hp : ∀ O H, Reps X.K O H dps dvs) {σ : St} {H : Hp} {Q : VK} (q : upX X.K T W (tNewX C sr dps t) σ H Q) : tMakeSD C (upSpRX X.K T sr) dvs (WE W) (upA X.K T t) σ H Q := by
 obtain ⟨F, η, P, Zw, R, h, k, kx⟩ := q
 refine ⟨F, η, _, R, h, fun args η1 vs H1 h1 e1 R1 r1 x dx nx ndx nex => ?_⟩
 have s1 : Same H1 (upd (upd H1 dx (.own x)) x (.ins C dx [])) := fun b u hb => by
  rw [upd_ne (ne_of_none hb nx), upd_ne (ne_of_none hb ndx)]; exact hb
 have nO : ¬ Oof F σ η1 x := fun z => R1.trO x z (Nw.of nx)
 have c1 : Car (Oof F σ η1) (With (Oof F σ η1) x) H1 (upd (upd H1 dx (.own x)) x (.ins C dx [])) := fun b u n hb _ => ⟨s1 b u hb, fun z => z.elim n (ne_of_none hb nx)⟩
 have gr : ∀ {H2 : Hp}, GrB x (upd (upd H1 dx (.own x)) x (.ins C dx [])) H2 → Gr H1 H2 := fun g => ⟨fun b u hb t => g.keep b u (ne_of_none hb nx) (s1 b u hb) t, fun b hb => g.live b fun q => hb fun o z => q o (s1 b o z)⟩
 refine ⟨Oof F σ η1, x, _, .o C [], _, _, _, rfl, nO, R1.trO.same s1, R1.tb.ext s1, ⟨dx, [], upd_same, by unfold RepF; rfl⟩, (r1.car c1).app (hp _ _), h1, fun z o' v H2 pz g tb ho' rz => ?_, fun C' fs d H2 z g tb xa => ?_⟩
 ·obtain ⟨rfl, fs, rfl, pz⟩ := pz
  obtain ⟨dx', ws, hx, rf⟩ := ho'
  refine ⟨rz.non_, k _ η1 _ H2 pz (e1.trans (gr g).ext) (R1.gr (gr g) tb) ?_⟩
  unfold Rep
  exact ⟨x, dx', ws, rfl, nO, hx, rf.mono fun b z => .inl z⟩
 ·exact kx C' fs η1 d σ H2 z (e1.trans (gr g).ext) (R1.gr (gr g) tb) xa
theorem pe_makeL {i : Nat} {t : TA} {dvs : List V} {ds : List Value} {S : Sp} {E : St → XK} (M : Mk X.K C f) (Fn : FnOk X.prog X.w X.K X.mg X.base (L2N.CX X.prog X.w) k f fd ps S) (hr : Room (k + 1) X.A) (hN : X.N[i]? = some x) (hv : Vis X.env.scope x) (hb : Binds X.K fd ps ds) (hd : Vals dvs ds) (hx : ∀ σ, PassesAt (L2N.CX X.prog X.w) X σ (E σ))
  (ha : PA X (e :: es) t) (hdb : (x == ("__debug__" : Str)) = false := by decide) (hcd : (x == ("__classdict__" : Str)) = false := by decide) (he : starEach (e :: es) X.env = (false, eval e X.env) :: starEach es X.env := by rfl) (hpl : (backTo pos (starEach es X.env)).any (·.1) = false := by rfl) :
  PE X (.Call (.Name x p) (e :: es) [] pos) (fun σ H Q => σ[i]? = some (some (.ref C)) ∧ tMakeSD C S dvs E t σ H Q) := by
 constructor
 intro pins s σ H Q I h
 obtain ⟨hs, h⟩ := h
 refine wpAny_Call_Name_kw (thn ((pe_var (pos := p) (i := i) hN hv hdb hcd).run pins s σ H (fun v H1 => v = .ref C ∧ H1 = H) I ⟨.ref C, hs, rfl, rfl⟩) fun u s1 hq1 => ?_)
 obtain ⟨v, H1, I1, r1, ev, eH⟩ := hq1
 subst ev eH
 obtain rfl : u = Value.ref C := r1
 refine PySem.W.callWith_K (h₀ := X.base) I1.ok.mod.kin M.kp (thn (ha.run pos pins s1 σ H1 _ I1 h) fun us s2 hq2 => ?_) he hpl
 obtain ⟨vs, H2, I2, r, q⟩ := hq2
 exact ⟨I2.kIn, run_makeSD M Fn hr hb hd (fun H s e s' J c => hx σ pins H s e s' J c) I2 r q⟩
def tNewLX (i : Nat) (C : Addr) (sr : SpRX) (dps : List PV) (t : TAp) : TXp := fun η P Zw => η[i]? = some (.va (.raw (.ref C))) ∧ tNewX C sr dps t η P Zw
theorem zx_newL {i : Nat} {dvs : List V} {ds : List Value} {dps : List PV} (M : Mk X.K C f) (Fn : FnOk X.prog X.w X.K X.mg X.base (L2N.CX X.prog X.w) k f fd ps (upSpRX X.K T sr)) (tk : L2N.Takes X W) (hr : Room (k + 1) X.A) (hN : X.N[i]? = some x) (hv : Vis X.env.scope x) (hb : Binds X.K fd ps ds) (hd : Vals dvs ds) (hp : ∀ O H, Reps X.K O H dps dvs)
  (ha : PA X (e :: es) (upA X.K T t)) (hdb : (x == ("__debug__" : Str)) = false := by decide) (hcd : (x == ("__classdict__" : Str)) = false := by decide) (he : starEach (e :: es) X.env = (false, eval e X.env) :: starEach es X.env := by rfl) (hpl : (backTo pos (starEach es X.env)).any (·.1) = false := by rfl) :
  PE X (.Call (.Name x p) (e :: es) [] pos) (upX X.K T W (tNewLX i C sr dps t)) := by
 refine PE.weak (pe_makeL (i := i) M Fn hr hN hv hb hd (L2N.passAt tk) ha hdb hcd he hpl) fun σ H Q q => ?_
 obtain ⟨F, η, P, Zw, R, ⟨h0, h⟩, k, kx⟩ := q
 refine ⟨?_, new_upX hp ⟨F, η, P, Zw, R, h, k, kx⟩⟩
 obtain ⟨v, h1, h2⟩ := R.va i _ h0
 unfold Rep at h2
 subst h2
 exact h1
def tTryRX (K : PySem.W.Frag) (cs : List Value) (C : Addr) (fld : Str) (tb : TSX) (te : TEp) : TSX := fun D Zw η => tb D (fun C1 fs η' => ∃ b, PySem.W.exmAny K (.ref C1) cs = some b ∧ (b = true → te η' fun y η1 => Zw C [(fld, y)] η1) ∧ (b = false → Zw C1 fs η')) η
theorem ps_raiseFN {fld : Str} {j : Nat} (Y : XOk X.prog X.K X.mg x C fld) (hsup : X.mg "super" = none) (hc : L2H.HotC X) (tk : L2.Takes X W) (hr : L2H.RoomH 1 X.A) (hg : Gl X x) (ha : PE X e (up X.K T te))
  (hdb : (x == ("__debug__" : Str)) = false := by decide) (he : starEach [e] X.env = (false, eval e X.env) :: starEach [] X.env := by rfl) (hpl : (backTo pos' (starEach [] X.env)).any (·.1) = false := by rfl) :
  PS X (.Raise (some (.Call (.Name x p) [e] [] pos')) (some (.Constant .none j cpos)) pos) (upSX X.K T W (tRaiseX C fld te)) := by
 obtain ⟨fI, cc, cda, B, i, newId, bmB, fd, BX, YI, YC⟩ := Y.ex
 refine PS.weak (L2H.ps_raiseHN hc tk (ZX.pmk5_X BX YI YC hsup hr hg Y.g (za_cons ha za_nil he) hdb he hpl)) fun D σ H q => ?_
 obtain ⟨F, η, D', Zw, R, h, k1, k2, k3, k4, kx⟩ := q
 refine ⟨F, η, fun ys η1 => ∃ y, ys = [y] ∧ Zw C [(fld, y)] η1, R, ?_, fun ys η1 vs H1 h1 e1 R1 r1 => ?_⟩
 ·refine Eq.mp ?_ (show te η fun y η1 => Zw C [(fld, y)] η1 from h)
  unfold tConsP tNilP
  congr 1
  funext y η1
  simp
 ·obtain ⟨y, rfl, hz⟩ := h1
  obtain ⟨v, rfl, r⟩ := r1.one
  refine ⟨v, rfl, fun d nd => ?_⟩
  have sm : Same H1 (upd H1 d (.xd [(fld, v)])) := Same.new nd
  refine kx C [(fld, y)] η1 (some d) σ _ hz (e1.trans (.same sm)) (R1.same sm) (.inr ⟨d, _, rfl, R1.trO.fresh nd, upd_same, ?_⟩)
  unfold RepF
  exact ⟨v, [], rfl, r.car (Car.same sm), by unfold RepF; rfl⟩
theorem zx_tryR {tpos : Pos} {fld : Str} {j ek : Nat} {elts : List Expr} {cs : List Value} {body : List Stmt} {tb : TSX} (hs : X.stack = X.env :: X.outer) (hf : X.env.frame = some X.env.locals) (hc : L2N.NamesL X elts cs) (hm : L2N.TupM X.prog X.w X.K cs) (hl : cs.length ≤ 1000)
  (hpa : ∀ hd : Option Value, PassesOwnAt (model X.prog X.w) (X.A.mark hd) X.A X.env X.xe) (tk : L2.Takes X W)
  (hb : ∀ (W' : WXs) (pn : List (Addr × Obj)) (xe : Value → Shared → Prop), L2N.Takes (X.tr pn xe) W' → PassesOwn (model X.prog X.w) X.A X.env xe → PSs (X.tr pn xe) body (upSX X.K T W' tb))
  (Y : XOk X.prog X.K X.mg x C fld) (hsup : X.mg "super" = none) (hr : L2H.RoomH 1 X.A) (hg : Gl X x) (ha : ∀ (a : Addr) (pn : List (Addr × Obj)), PE (L2H.suiteX X a pn) e (up X.K T te))
  (hdb : (x == ("__debug__" : Str)) = false := by decide) (he : ∀ (a : Addr) (pn : List (Addr × Obj)), starEach [e] (L2H.suiteX X a pn).env = (false, eval e (L2H.suiteX X a pn).env) :: starEach [] (L2H.suiteX X a pn).env := by intro _ _; rfl) :
  PS X (.Try body [.ExceptHandler (some (.Tuple elts ek np)) none [.Raise (some (.Call (.Name x p) [e] [] pos')) (some (.Constant .none j cpos)) pos] apos] [] [] tpos) (upSX X.K T W (tTryRX X.K cs C fld tb te)) := by
 refine PS.weak (L2N.ps_try_tupR (tb := fun W' => upSX X.K T W' tb) (ts := fun a cls d => upSX X.K T W (tRaiseX C fld te)) hs hf hc hm hl hpa tk hb (fun a oe cls d pn hz hf' tkS hot => pss_one (ps_raiseFN (X := L2H.suiteX X a ((a, oe) :: pn)) Y hsup hot tkS ⟨hr.dp, hr.un⟩ hg (ha a _) hdb (he a _)))) fun D σ H q => ?_
 obtain ⟨F, η, D', Zw, R, h, k1, k2, k3, k4, kx⟩ := q
 refine ⟨F, η, D', _, R, h, k1, k2, k3, k4, fun C1 fs η' d σ' H' z e R' x => ?_⟩
 obtain ⟨b, hb1, hy, hno⟩ := z
 refine ⟨b, hb1, fun hbt a na => ?_, fun hbf => kx C1 fs η' d σ' H' (hno hbf) e R' x⟩
 exact ⟨F, η', D', Zw, R', hy hbt, fun η2 σ2 H2 q e2 R2 => k1 _ _ _ q (e.trans e2) R2, fun η2 σ2 H2 q e2 R2 => k2 _ _ _ q (e.trans e2) R2, fun η2 σ2 H2 q e2 R2 => k3 _ _ _ q (e.trans e2) R2, fun y η2 σ2 v H2 q e2 R2 r2 => k4 y _ _ v _ q (e.trans e2) R2 r2, kx.ext e⟩
end
section
variable {P : Program} {w : World} {K : PySem.W.Frag} {mg : Str → Option Value} {base : Heap} {T : List (Addr × Str)}
theorem okXPC {x qual : Str} {st : Stmt} {f : Addr} {fd : FuncData} {N ps : List Str} {k : Nat} {sp : SpX} (Fn : Fun K x qual st f fd) (S : FnScope N ps (defScope st)) (hl : ∀ args P Zw, sp args P Zw → args.length = ps.length) (hn : ps.length ≤ N.length)
  (hbody : ∀ (cdv : Value) (A : Around) (outer : List Env) (s : Shared) (H : Hp) (E : XK), Room k (A.deeper (envOfC qual (defScope st) s.heap.objs.size f cdv)) → L2.Takes (cxOf (L2.CX P w) P w K mg base N qual (defScope st) f cdv A outer s H E) (fun cls d _ H' => E cls d H') →
   PassesOwn (model P w) (cxOf (L2.CX P w) P w K mg base N qual (defScope st) f cdv A outer s H E).A (cxOf (L2.CX P w) P w K mg base N qual (defScope st) f cdv A outer s H E).env (cxOf (L2.CX P w) P w K mg base N qual (defScope st) f cdv A outer s H E).xe →
   (∀ hd : Option Value, PassesOwnAt (model P w) ((cxOf (L2.CX P w) P w K mg base N qual (defScope st) f cdv A outer s H E).A.mark hd) (cxOf (L2.CX P w) P w K mg base N qual (defScope st) f cdv A outer s H E).A (cxOf (L2.CX P w) P w K mg base N qual (defScope st) f cdv A outer s H E).env (cxOf (L2.CX P w) P w K mg base N qual (defScope st) f cdv A outer s H E).xe) →
   ∃ ts, PSs (cxOf (L2.CX P w) P w K mg base N qual (defScope st) f cdv A outer s H E) (defBody st) (upSX K T (fun cls d _ H' => E cls d H') ts) ∧
    ∀ args P Zw, sp args P Zw → ts { nx := fun _ => P .non, rt := fun x _ => P x } (fun C fs _ => Zw C fs) (startP N.length args)) :
  FnOk P w K mg base (L2.CX P w) (k + 1) f fd ps (upSpX K T sp) := by
 obtain ⟨oc, od, kV, doc, pm, an, cdv, ct, osl, rfl, lk, hcd⟩ := Fn.ex
 refine fn_of lk hcd S (len_spX hl) fun A outer s H vs Q E hr h => ?_
 obtain ⟨ts, d, rd⟩ := hbody cdv A outer s H E hr (L2.takes_of rfl rfl rfl rfl) PassesOwn.leaving (fun _ => PassesOwnAt.leaving)
 exact ⟨_, d, body_spX h (fun args P Zw hs => by rw [hl _ _ _ hs]; exact hn) rd⟩
end
section
variable {X : Cx}
def rIntS : R1p := fun ps P => match ps with
 | [.str a] => ∃ n, PySem.intText? a = some n ∧ a.length ≤ 640 ∧ P (.int n)
 | _ => False
theorem zc_intS : CallR X (.type "int") (r1 X.K rIntS) := by
 refine CallR.weak (call_int_str (X := X)) fun xs H Q h => ?_
 obtain ⟨O, ps, P, tr, hx, h, k⟩ := h
 unfold rIntS at h
 split at h
 ·rename_i a
  obtain ⟨n, h1, h2, h3⟩ := h
  obtain ⟨v, rfl, r⟩ := hx.one
  cases r.str_
  exact ⟨a, n, rfl, h1, h2, k.int h3⟩
 ·exact h.elim
end
abbrev PrX3 := PySem.W.Frag → Addr → (Str → Addr) → List PV → (PV → Prop) → WC → Prop
def optI : Option Int → PV
 | some i => .int i
 | none => .non
def digS : Str := ("0123456789" : Str)
def digB (w : Str) : Bool := w.cps.toList.all fun c => decide (c ∈ digS.cps.toList)
def numW (w : Str) : Option Int := if w.cps.toList = [] ∨ digB w = false then none else if w.cps.toList[0]? = some 48 ∧ 1 < w.length then none else some ((NumText.digitsVal w.cps.toList : Nat) : Int)
def partN (w : Str) : Str := (Txt.partition w (":" : Str)).1
def partS (w : Str) : Str := (Txt.partition (Txt.partition w (":" : Str)).2.2 ("-" : Str)).1
def partE (w : Str) : Str := (Txt.partition (Txt.partition w (":" : Str)).2.2 ("-" : Str)).2.2
def tripW (w : Str) : PV := .tup [.str (partN w), optI (numW (partS w)), optI (numW (partE w))]
def wordsW (row : Str) : List Str := Txt.split row (" " : Str)
structure RdF (K : PySem.W.Frag) (XC : Str → Addr) : Prop where
 e1 : PySem.W.exmAny K (.ref (XC ("InvalidSeats" : Str))) [.ref (XC ("InvalidSeats" : Str)), .ref (XC ("InvalidTrips" : Str))] = some true
 e2 : PySem.W.exmAny K (.ref (XC ("InvalidTrips" : Str))) [.ref (XC ("InvalidSeats" : Str)), .ref (XC ("InvalidTrips" : Str))] = some true
def sp_number_written : PrP := fun K _ args P => ∃ w, args = [.str w] ∧ w.length ≤ 640 ∧ P (optI (numW w))
def sp_trip_written : PrP := fun K _ args P => ∃ w, args = [.str w] ∧ w.length ≤ 640 ∧ P (tripW w)
def sp_Line_read : PrX3 := fun K C XC args P Zw => ∃ row, args = [.raw (.ref C), .str row] ∧ RdF K XC ∧ row.length ≤ 100000 ∧ (∀ w ∈ wordsW row, w.length ≤ 640) ∧
 (∀ n rs, numW ((wordsW row).getD 0 ("" : Str)) = some n → ((wordsW row).drop 1).map tripW = rs.map rowP → 1 ≤ n → n ≤ 20 → Rw rs → P (lineP C n rs)) ∧
 (seatsB (optI (numW ((wordsW row).getD 0 ("" : Str)))) = false ∨ vNT (((wordsW row).drop 1).map tripW) < ((wordsW row).drop 1).length → Zw (XC ("InvalidText" : Str)) [(("text" : Str), .str row)])
def ts_number_written (K : PySem.W.Frag) (CLine : Addr) : TSp := tSeqP (tIfSP (tOrP (tBlP (tOpP (rEqI false) (tVarP 0) (tConP (.str ("" : Str))))) (tNotP (tBlP (tCBP rAllP (tConsP (tValP (tLcP (iStrP (tVarP 0)) (gNameP 1) (tYesP) (tOpP (rInS false) (tVarP 1) (tConP (.str ("0123456789" : Str)))) [1])) (tNilP)))))) (tRetP (tConP .non)) (tNextP)) (tSeqP (tIfSP (tAndP (tBlP (tOpP (rEqI false) (tOpP rIxP (tVarP 0) (tConP (.int 0))) (tConP (.str ("0" : Str))))) (tBlP (tOpP rGt (tCBP rLen (tConsP (tVarP 0) (tNilP))) (tConP (.int 1))))) (tRetP (tConP .non)) (tNextP)) (tRetP (tCBP rIntS (tConsP (tVarP 0) (tNilP)))))
def ts_trip_written (K : PySem.W.Frag) (CLine : Addr) : TSp := tSeqP (tAsgP (tPartiP (tVarP 0) (tConP (.str (":" : Str)))) (gTupP 3 (gConsP (gNameP 1) (gConsP (gNameP 2) (gConsP (gNameP 3) (gNilP)))))) (tSeqP (tAsgP (tPartiP (tVarP 3) (tConP (.str ("-" : Str)))) (gTupP 3 (gConsP (gNameP 4) (gConsP (gNameP 5) (gConsP (gNameP 6) (gNilP)))))) (tRetP (tTupP (tConsP (tVarP 1) (tConsP (tCallP (sp_number_written K CLine) [] (tConsP (tVarP 4) (tNilP))) (tConsP (tCallP (sp_number_written K CLine) [] (tConsP (tVarP 6) (tNilP))) (tNilP)))))))
def ts_Line_read (K : PySem.W.Frag) (CLine : Addr) (XC : Str → Addr) : TSX := tSeqX (tIfX (tNotP (tBlP (tCBP (rIsI K) (tConsP (tVarP 1) (tConsP (tConP (.raw (.ty "str"))) (tNilP)))))) (tRaiseX (XC ("InvalidText" : Str)) ("text" : Str) (tVarP 1)) (tPlX (tNextP))) (tSeqX (tPlX (tSetP 2 (tSplitP (tVarP 1) (tConP (.str (" " : Str)))))) (tSeqX (tPlX (tSetP 3 (tCBP rTuple (tConsP (tValP (tLcP (iListP (tSliceP (tVarP 2) (tPartP (tConP (.int 1))) (tNoPartP))) (gNameP 4) (tYesP) (tCallP (sp_trip_written K CLine) [] (tConsP (tVarP 4) (tNilP))) [4])) (tNilP))))) (tTryRX K [.ref (XC ("InvalidSeats" : Str)), .ref (XC ("InvalidTrips" : Str))] (XC ("InvalidText" : Str)) ("text" : Str) (tRetX (tNewLX 0 CLine (sp_Line_initX K CLine XC) [] (tConsP (tCallP (sp_number_written K CLine) [] (tConsP (tOpP rIxP (tVarP 2) (tConP (.int 0))) (tNilP))) (tConsP (tVarP 3) (tNilP))))) (tVarP 1))))
section
variable {K : PySem.W.Frag} {C : Addr} {XC : Str → Addr} {args : List PV} {P : PV → Prop} {Zw : WC}
theorem len_number_written (h : sp_number_written K C args P) : args.length = 1 := by obtain ⟨_, rfl, _⟩ := h; rfl
theorem len_trip_written (h : sp_trip_written K C args P) : args.length = 1 := by obtain ⟨_, rfl, _⟩ := h; rfl
theorem len_Line_read (h : sp_Line_read K C XC args P Zw) : args.length = 2 := by obtain ⟨_, rfl, _⟩ := h; rfl
end
theorem first_in {s : Nat} : ∀ {l : List Nat}, s ∈ l → ∃ a b, l = a ++ s :: b ∧ s ∉ a
 | c :: l, h => by
  by_cases e : c = s
  ·exact ⟨[], l, by rw [e]; rfl, List.not_mem_nil⟩
  ·obtain ⟨a, b, e1, e2⟩ := first_in (l := l) (by rcases List.mem_cons.mp h with z | z; exact absurd z.symm e; exact z)
   exact ⟨c :: a, b, by rw [e1]; rfl, fun z => by rcases List.mem_cons.mp z with z | z; exact e z.symm; exact e2 z⟩
theorem part_cases {y : Str} {s : Nat} (ey : TL.tl y = [s]) (w : Str) : (∃ a b : Str, w = a ++ y ++ b ∧ s ∉ TL.tl a ∧ Txt.partition w y = (a, y, b)) ∨ (s ∉ TL.tl w ∧ Txt.partition w y = (w, Str.empty, Str.empty)) := by
 by_cases h : s ∈ TL.tl w
 ·obtain ⟨a, b, e1, e2⟩ := first_in h
  have ea : w = (⟨a.toArray⟩ : Str) ++ y ++ ⟨b.toArray⟩ := TL.ext_tl (by rw [TL.tl_append, TL.tl_append, ey, e1]; simp [TL.tl])
  refine .inl ⟨⟨a.toArray⟩, ⟨b.toArray⟩, ea, e2, ?_⟩
  rw [ea]
  exact TL.partition_app ey e2
 ·exact .inr ⟨h, TL.partition_none ey h⟩
theorem part_len {y : Str} {s : Nat} (ey : TL.tl y = [s]) (w : Str) : (Txt.partition w y).1.length ≤ w.length ∧ (Txt.partition w y).2.2.length ≤ w.length := by
 rcases part_cases ey w with ⟨a, b, e1, _, e2⟩ | ⟨_, e2⟩
 ·rw [e2]
  have : w.length = a.length + y.length + b.length := by rw [TL.len_tl, e1, TL.tl_append, TL.tl_append, List.length_append, List.length_append, ← TL.len_tl, ← TL.len_tl, ← TL.len_tl]
  exact ⟨by show a.length ≤ _; omega, by show b.length ≤ _; omega⟩
 ·rw [e2]
  exact ⟨Nat.le_refl _, Nat.zero_le _⟩
theorem ey_colon : TL.tl (":" : Str) = [58] := by decide +kernel
theorem ey_dash : TL.tl ("-" : Str) = [45] := by decide +kernel
theorem ey_space : TL.tl (" " : Str) = [32] := by decide +kernel
theorem spl_one (s c : Nat) (acc r : List Nat) : TL.spl [s] 0 acc (c :: r) = if c = s then acc :: TL.spl [s] 0 [] r else TL.spl [s] 0 (acc ++ [c]) r := by
 by_cases e : c = s
 ·rw [if_pos e]
  exact TL.spl_hit (by unfold TL.pre; simp [e])
 ·rw [if_neg e]
  exact TL.spl_miss (by unfold TL.pre; simp [e])
theorem spl_len (s : Nat) : ∀ (l acc : List Nat), 1 ≤ (TL.spl [s] 0 acc l).length ∧ (TL.spl [s] 0 acc l).length ≤ l.length + 1
 | [], acc => by rw [TL.spl_nil]; exact ⟨Nat.le_refl _, Nat.le_refl _⟩
 | c :: l, acc => by
  rw [spl_one]
  split
  ·have := spl_len s l []
   rw [List.length_cons, List.length_cons]; omega
  ·have := spl_len s l (acc ++ [c])
   rw [List.length_cons]; omega
theorem words_tl (row : Str) : (wordsW row).map TL.tl = TL.spl [32] 0 [] (TL.tl row) := by
 have h := TL.split_spl row (" " : Str) (by rw [ey_space]; simp) (TL.kind_ok (by decide +kernel))
 rw [ey_space] at h
 exact h
theorem words_len (row : Str) : 1 ≤ (wordsW row).length ∧ (wordsW row).length ≤ row.length + 1 := by
 have h := congrArg List.length (words_tl row)
 rw [List.length_map] at h
 have := spl_len 32 (TL.tl row) []
 rw [TL.len_tl]
 omega
theorem digit_range {c : Nat} (h : c ∈ digS.cps.toList) : 48 ≤ c ∧ c ≤ 57 := by
 have e : digS.cps.toList = [48, 49, 50, 51, 52, 53, 54, 55, 56, 57] := by decide +kernel
 rw [e] at h
 simp only [List.mem_cons, List.not_mem_nil, or_false] at h
 omega
theorem digits_ok {w : Str} (h : digB w = true) : NumText.AllDigits w.cps.toList := fun c hc => digit_range (of_decide_eq_true (List.all_eq_true.mp h c hc))
theorem kn_opt {K : PySem.W.Frag} (o : Option Int) : Kn K (optI o) := by cases o <;> exact .inl rfl
section
variable {K : PySem.W.Frag} {C : Addr} {XC : Str → Addr} {args : List PV} {P : PV → Prop} {Zw : WC}
theorem q_eqS0 {a b : Str} {Q : PV → Prop} (h : Q (.bl (decide (a = b)))) : rEqI false (.str a) (.str b) Q := h
theorem q_intS {a : Str} {n : Int} {Q : PV → Prop} (h1 : PySem.intText? a = some n) (h2 : a.length ≤ 640) (h : Q (.int n)) : rIntS [.str a] Q := ⟨n, h1, h2, h⟩
theorem rd_number_written (h : sp_number_written K C args P) : ts_number_written K C { nx := fun _ => P .non, rt := fun x _ => P x } (startP 2 args) := by
 obtain ⟨w, rfl, hl, hp⟩ := h
 have e : startP 2 [.str w] = [.va (.str w), .no] := rfl
 rw [e]
 have sz : 1000 < sizeLine := by decide
 have wl : w.length = w.cps.toList.length := by simp [Str.length]
 refine w_seq (w_if (w_or (w_bl (w_op (w_var (x := .str w) rfl (w_con (q_eqS0 ?_)))))))
 by_cases c0 : w = ("" : Str)
 ·rw [decide_eq_true c0]
  have : numW w = none := by unfold numW; rw [if_pos (.inl (by rw [c0]; rfl))]
  rw [this] at hp
  exact q_iteT (w_ret (w_con hp))
 rw [decide_eq_false c0]
 have ne : w.cps.toList ≠ [] := fun z => c0 (TL.ext_tl z)
 refine q_iteF (w_not (w_bl (w_cb (w_cons (w_val (w_lc (show iStrP _ _ _ from w_var (x := .str w) rfl ?_)))))))
 show ∃ Inv : Nat → List PV → EP' → Prop, _
 refine ⟨fun i acc η => acc = (w.cps.toList.take i).map (fun c => .bl (decide (c ∈ digS.cps.toList))) ∧ η = [.va (.str w), .no], ⟨rfl, rfl⟩, ?_, ?_⟩
 ·rintro i y acc η hi ⟨rfl, rfl⟩
  rw [List.getElem?_map] at hi
  obtain ⟨c, hc, rfl⟩ := Option.map_eq_some_iff.mp hi
  refine w_gname (w_yes (q_iteT (w_op (w_var rfl (w_con (q_inS ⟨?_, ?_, rfl⟩))))))
  ·rw [List.length_map, List.length_take]; omega
  ·rw [take_map hc]; rfl
 rintro acc η ⟨rfl, rfl⟩
 rw [List.length_map, List.take_length]
 refine w_nil (q_all (blsOf_map _ _) ?_)
 have ea : (w.cps.toList.map fun c => decide (c ∈ digS.cps.toList)).all id = digB w := by unfold digB; rw [List.all_map]; rfl
 rw [ea]
 cases hd : digB w with
 | false =>
  have : numW w = none := by unfold numW; rw [if_pos (.inr hd)]
  rw [this] at hp
  exact q_iteT (w_ret (w_con hp))
 | true =>
  refine q_iteF (w_next ?_)
  dsimp only
  obtain ⟨c, l, ecl⟩ : ∃ c l, w.cps.toList = c :: l := by
   cases q : w.cps.toList with
   | nil => exact absurd q ne
   | cons c l => exact ⟨c, l, rfl⟩
  refine w_seq (w_if (w_and (w_bl (w_op (w_op (w_var (x := .str w) rfl (w_con (q_ixS (c := c) (by omega) (by rw [ecl]; exact atI_nat (xs := c :: l) (j := 0) rfl) (w_con (q_eqS0 ?_))))))))))
  have hp : P (optI (if w.cps.toList[0]? = some 48 ∧ 1 < w.length then none else some ((NumText.digitsVal w.cps.toList : Nat) : Int))) := by
   have e2 : numW w = if w.cps.toList[0]? = some 48 ∧ 1 < w.length then none else some ((NumText.digitsVal w.cps.toList : Nat) : Int) := by
    unfold numW
    rw [if_neg (by rintro (z | z); exact ne z; rw [hd] at z; cases z)]
   rw [← e2]; exact hp
  have h0 : w.cps.toList[0]? = some c := by rw [ecl]; rfl
  have last : ¬ (c = 48 ∧ 1 < w.length) → (tRetP (tCBP rIntS (tConsP (tVarP 0) tNilP))) { nx := fun _ => P .non, rt := fun x _ => P x } [.va (.str w), .no] := fun z => by
   rw [if_neg (by rw [h0]; rintro ⟨z1, z2⟩; exact z ⟨Option.some.inj z1, z2⟩)] at hp
   exact w_ret (w_cb (w_cons (w_var (x := .str w) rfl (w_nil (q_intS (intText_digits (digits_ok hd) ne (by omega)) hl hp)))))
  by_cases c1 : (⟨#[c]⟩ : Str) = ("0" : Str)
  ·rw [decide_eq_true c1]
   have c48 : c = 48 := by
    have := congrArg (fun z : Str => z.cps.toList) c1
    have e48 : ("0" : Str).cps.toList = [48] := by decide +kernel
    rw [e48] at this
    simpa using this
   refine q_iteT (w_bl (w_op (w_cb (w_cons (w_var (x := .str w) rfl (w_nil (q_lenS (by omega) (w_con (q_gt ?_)))))))))
   by_cases c2 : (1 : Int) < (w.length : Int)
   ·rw [decide_eq_true c2]
    rw [if_pos ⟨by rw [h0, c48], by omega⟩] at hp
    exact q_iteT (w_ret (w_con hp))
   ·rw [decide_eq_false c2]
    exact q_iteF (w_next (last fun z => c2 (by omega)))
  ·rw [decide_eq_false c1]
   exact q_iteF (q_iteF (w_next (last fun z => c1 (by rw [z.1]; decide +kernel))))
theorem rd_trip_written (h : sp_trip_written K C args P) : ts_trip_written K C { nx := fun _ => P .non, rt := fun x _ => P x } (startP 7 args) := by
 obtain ⟨w, rfl, hl, hp⟩ := h
 have e : startP 7 [.str w] = [.va (.str w), .no, .no, .no, .no, .no, .no] := rfl
 rw [e]
 have sz : 1000 < sizeLine := by decide
 have l1 := part_len ey_colon w
 have l2 := part_len ey_dash (Txt.partition w (":" : Str)).2.2
 refine w_seq (w_asg (show tPartiP _ _ _ _ from w_var (x := .str w) rfl ⟨⟨_, rfl⟩, w_con ⟨w, (":" : Str), rfl, rfl, by decide +kernel, by omega, ?_⟩⟩))
 refine ⟨rfl, w_g3 ?_⟩
 simp only [List.set_cons_zero, List.set_cons_succ]
 refine w_seq (w_asg (show tPartiP _ _ _ _ from w_var (x := .str (Txt.partition w (":" : Str)).2.2) rfl ⟨⟨_, rfl⟩, w_con ⟨_, ("-" : Str), rfl, rfl, by decide +kernel, by omega, ?_⟩⟩))
 refine ⟨rfl, w_g3 ?_⟩
 simp only [List.set_cons_zero, List.set_cons_succ]
 refine w_ret (w_tup (w_cons (w_var (x := .str (partN w)) rfl (w_cons (w_call (w_cons (w_var (x := .str (partS w)) rfl (w_nil ⟨partS w, rfl, by unfold partS; omega, ?_⟩))))))))
 exact w_cons (w_call (w_cons (w_var (x := .str (partE w)) rfl (w_nil ⟨partE w, rfl, by unfold partE; omega, w_nil ⟨by show 3 ≤ sizeLine; omega, hp⟩⟩))))
theorem knT_trip {K : PySem.W.Frag} {w : Str} (h : w.length ≤ 640) : KnT K (tripW w) := by
 refine ⟨.inl rfl, fun n s e z => ?_⟩
 have sz : 1000 < sizeLine := by decide
 have l1 := part_len ey_colon w
 unfold tripW at z
 cases z
 exact ⟨.inl rfl, kn_opt _, kn_opt _, fun z e => by cases e; unfold partN; omega⟩
end
theorem cut_one {α : Type} (xs : List α) : cutP xs (some 1) none = xs.drop 1 := by
 unfold cutP
 have e1 : HT.sIx xs.length 0 (some 1) = min 1 xs.length := by unfold HT.sIx; simp
 have e2 : HT.sIx xs.length xs.length none = xs.length := rfl
 rw [e1, e2]
 by_cases c : 1 ≤ xs.length
 ·rw [Nat.min_eq_left c, List.take_of_length_le (by rw [List.length_drop]; omega)]
 ·have : xs = [] := List.length_eq_zero_iff.mp (by omega)
  subst this; rfl
section
variable {K : PySem.W.Frag} {C : Addr} {XC : Str → Addr} {args : List PV} {P : PV → Prop} {Zw : WC} {D : EndsP} {Zx : WZ} {η : EP'}
theorem w_tryR {cs : List Value} {fld : Str} {tb : TSX} {te : TEp} (h : tb D (fun C1 fs η' => ∃ b, PySem.W.exmAny K (.ref C1) cs = some b ∧ (b = true → te η' fun y η1 => Zx C [(fld, y)] η1) ∧ (b = false → Zx C1 fs η')) η) : tTryRX K cs C fld tb te D Zx η := h
theorem w_retX1 {te : TXp} (h : te η D.rt Zx) : tRetX te D Zx η := h
theorem w_newL {i : Nat} {sr : SpRX} {dps : List PV} {t : TAp} {Q : PV → EP' → Prop} (e : η[i]? = some (.va (.raw (.ref C)))) (h : t η fun args η1 => sr (.o C []) (args ++ dps) (fun r o' => r = .non ∧ ∃ fs, o' = .o C fs ∧ Q (.ins C fs) η1) fun C' fs => Zx C' fs η1) : tNewLX i C sr dps t η Q Zx := ⟨e, h⟩
theorem rd_Line_read (h : sp_Line_read K C XC args P Zw) : ts_Line_read K C XC { nx := fun _ => P .non, rt := fun x _ => P x } (fun C fs _ => Zw C fs) (startP 5 args) := by
 obtain ⟨row, rfl, rf, hrl, hw, hok, hbad⟩ := h
 have e : startP 5 [.raw (.ref C), .str row] = [.va (.raw (.ref C)), .va (.str row), .no, .no, .no] := rfl
 rw [e]
 have sz : 200000 < sizeLine := by decide
 obtain ⟨wl1, wl2⟩ := words_len row
 refine w_seqX1 (w_ifX1 (w_not (w_bl (w_cb (w_cons (w_var (x := .str row) rfl (w_cons (w_con (w_nil (isi_str (.inl rfl) ?_))))))))))
 refine q_iteF (w_plX1 (w_next ?_))
 dsimp only
 refine w_seqX1 (w_plX1 (w_set (w_splitX (w_var (x := .str row) rfl ⟨⟨_, rfl⟩, w_con ⟨row, (" " : Str), rfl, rfl, by decide +kernel, by omega, ?_⟩⟩))))
 simp only [List.set_cons_zero, List.set_cons_succ]
 change tSeqX _ _ _ _ [.va (.raw (.ref C)), .va (.str row), .va (.lst ((wordsW row).map .str)), .no, .no]
 generalize wordsW row = ws at *
 refine w_seqX1 (w_plX1 (w_set (w_cb (w_cons (w_val (w_lc (w_lstP (w_slice (w_var (x := .lst (ws.map .str)) rfl (w_part (w_con (w_nop (q_slL ?_)))))))))))))
 rw [cut_one, ← List.map_drop]
 show ∃ Inv : Nat → List PV → EP' → Prop, _
 have ld : (ws.drop 1).length ≤ row.length := by rw [List.length_drop]; omega
 have hd : ∀ w ∈ ws.drop 1, w.length ≤ 640 := fun w hm => hw w (List.mem_of_mem_drop hm)
 refine ⟨fun i acc η => acc = ((ws.drop 1).take i).map tripW ∧ η = [.va (.raw (.ref C)), .va (.str row), .va (.lst (ws.map .str)), .no, .no], ⟨rfl, rfl⟩, ?_, ?_⟩
 ·rintro i y acc η hi ⟨rfl, rfl⟩
  have hi : ((ws.drop 1).map PV.str)[i]? = some y := hi
  rw [List.getElem?_map] at hi
  obtain ⟨w, hwi, rfl⟩ := Option.map_eq_some_iff.mp hi
  refine w_gname (w_yes (q_iteT (w_call (w_cons (w_var (x := .str w) rfl (w_nil ⟨w, rfl, hd w (List.mem_of_getElem? hwi), ?_, ?_, rfl⟩))))))
  ·rw [List.length_map, List.length_take]; omega
  ·rw [take_map hwi]
 rintro acc η ⟨rfl, rfl⟩
 have el : ((ws.drop 1).map PV.str).length = (ws.drop 1).length := List.length_map _
 rw [el, List.take_length]
 refine w_nil (q_tupl ?_)
 simp only [List.set_cons_zero, List.set_cons_succ]
 have a0 : atI (ws.map PV.str) (0 : Int) = some (.str (ws.getD 0 ("" : Str))) := by
  have := at_map (f := PV.str) (xs := ws) (j := 0) ("" : Str) (by decide) (by omega)
  rw [this]; rfl
 have w0 : (ws.getD 0 ("" : Str)).length ≤ 640 := by
  refine hw _ (List.mem_of_getElem? (i := 0) ?_)
  rw [List.getD_eq_getElem?_getD, List.getElem?_eq_getElem (by omega)]; rfl
 refine w_tryR (w_retX1 (w_newL rfl (w_cons (w_call (w_cons (w_op (w_var (x := .lst (ws.map .str)) rfl (w_con (q_ix a0 (w_nil ⟨_, rfl, w0, ?_⟩))))))))))
 refine w_cons (w_var (x := .tup ((ws.drop 1).map tripW)) rfl (w_nil ⟨_, _, rfl, rfl, kn_opt _, ⟨.inl rfl, fun xs z => ?_⟩, fun n rs hx hy n1 n2 hrw => ?_, fun hs => ?_, fun hs ht => ?_, fun xs hs hy hlt => ?_⟩))
 ·cases z
  exact ⟨by rw [List.length_map]; omega, fun x hx => by
   obtain ⟨w, hm, rfl⟩ := List.mem_map.mp hx
   exact knT_trip (hd w hm)⟩
 ·refine ⟨rfl, _, rfl, ?_⟩
  have hn : numW (ws.getD 0 ("" : Str)) = some n := by
   cases q : numW (ws.getD 0 ("" : Str)) with
   | none => rw [q] at hx; cases hx
   | some m => rw [q] at hx; cases hx; rfl
  have hy : (ws.drop 1).map tripW = rs.map rowP := PV.tup.inj (show PV.tup ((ws.drop 1).map tripW) = PV.tup (rs.map rowP) from hy)
  exact hok n rs hn hy n1 n2 hrw
 ·exact ⟨true, rf.e1, fun _ => w_var (x := .str row) rfl (hbad (.inl hs)), fun z => by cases z⟩
 ·cases ht
 ·cases hy
  exact ⟨true, rf.e2, fun _ => w_var (x := .str row) rfl (hbad (.inr (by rw [List.length_map] at hlt; exact hlt))), fun z => by cases z⟩
end
section
variable {X : Cx} {T : List (Addr × Str)} {k : Nat} {C g q : Addr} {mc : Value} {sp : SpX} {o e : Expr} {es : List Expr} {m : Str} {pos apos : Pos} {te ta : TEp} {t : TAp} {fd : FuncData} {ps ks : List Str} {kws : List Keyword} {E : XK} {pl : Sem Bool}
def tIMetX (C : Addr) (m : Str) (sp : SpX) (ta : TEp) (t : TAp) : TXp := fun η P Zw => ta η fun x η1 => (∃ fs, x = .ins C fs ∧ fs.lookup m = none) ∧ t η1 fun args η2 => sp (.raw (.ref C) :: args) (fun z => P z η2) fun C' fs => Zw C' fs η2
theorem zx_imeth (he : PE X o (up X.K T ta)) (c : ClX.CInst X.K C m q g) (Fn : FnOk X.prog X.w X.K X.mg X.base (L2.CX X.prog X.w) k g fd ps (upSpX X.K T sp)) (hb : Binds X.K fd ps []) (tk : L2.Takes X (fun cls d _ H => E cls d H)) (hr : Room k X.A) (ha : PA X (e :: es) (upA X.K T t))
  (hst : starEach (e :: es) X.env = (false, eval e X.env) :: starEach es X.env := by rfl) (hpl : (backTo pos (starEach es X.env)).any (·.1) = false := by rfl)
  (ht : eval (.Call (.Attribute o m apos) (e :: es) [] pos) X.env = (do
   let ov ← eval o X.env
   standAt apos.atName
   let (f, first) ← holding [ov] (getMethod ov m pl)
   callWith pos f first (backTo pos (starEach (e :: es) X.env)) (backToKw pos (keywordEach [] X.env))) := by rfl) :
  PE X (.Call (.Attribute o m apos) (e :: es) [] pos) (upX X.K T (fun cls d _ H => E cls d H) (tIMetX C m sp ta t)) := by
 refine PE.weak (ClX.pe_imethD (E := E) he c (fnR_of Fn hb) hr (L2.passes_call tk fun _ _ _ _ h => h) ha hst hpl ht) fun σ H Q qq => ?_
 obtain ⟨F, η, P, Zw, R, h, k, kx⟩ := qq
 refine ⟨F, η, _, R, h, fun x η1 v H1 h1 e1 R1 r1 => ?_⟩
 obtain ⟨⟨fs, rfl, hm⟩, h1⟩ := h1
 obtain ⟨a, dx, ws, rfl, na, q, rr⟩ := r1.ins_
 refine ⟨a, dx, ws, rfl, q, (rr.look m).2 hm, F, η1, _, R1, h1, fun args η2 vs H2 h2 e2 R2 r2 => ?_⟩
 have E2 := e1.trans e2
 refine ⟨Oof F σ η2, _, _, _, R2.trO, R2.tb, ?_, h2, fun z v H3 pz g tb rz => k z η2 v H3 pz (E2.trans g.ext) (R2.gr g tb) rz, fun C' fs d H3 z g tb xa => kx C' fs η2 d σ H3 z (E2.trans g.ext) (R2.gr g tb) xa⟩
 unfold Reps
 exact ⟨_, vs, rfl, by unfold Rep; rfl, r2⟩
end
structure TxOk (row : Str) : Prop where
 l : row.length ≤ 60000
 w : ∀ w ∈ wordsW row, w.length ≤ 500
 a : ∀ c ∈ row.cps.toList, 10 ≤ c ∧ c < 127
def ReadL (row : Str) (n : Int) (rs : List Trip) : Prop := numW ((wordsW row).getD 0 ("" : Str)) = some n ∧ ((wordsW row).drop 1).map tripW = rs.map rowP ∧ 1 ≤ n ∧ n ≤ 20 ∧ Rw rs
def BadL (row : Str) : Prop := seatsB (optI (numW ((wordsW row).getD 0 ("" : Str)))) = false ∨ vNT (((wordsW row).drop 1).map tripW) < ((wordsW row).drop 1).length
structure TxF (K : PySem.W.Frag) (XC : Str → Addr) : Prop where
 rd : RdF K XC
 kd : KindF K XC (XC ("InvalidText" : Str)) 9
 xf : XfN K (XC ("InvalidText" : Str)) ("text" : Str)
 ex : PySem.W.exmAny K (.ref (XC ("InvalidText" : Str))) [.ref (XC ("SeatError" : Str)), .ref (XC ("StateError" : Str)), .ref (XC ("SizeError" : Str))] = some true
abbrev PrPX3 := PySem.W.Frag → Addr → (Str → Addr) → List PV → (PV → Prop) → Prop
abbrev PrRX3 := PySem.W.Frag → Addr → (Str → Addr) → Ow → List PV → (PV → Ow → Prop) → Prop
def NearB (rs : List Trip) : Prop := ∀ r ∈ rs, r.2.2 < 10 ^ 500
def sp_Line_strB : PrP := fun K C args P => ∃ n rs, args = [lineP C n rs] ∧ 1 ≤ n ∧ n ≤ 20 ∧ Rw rs ∧ NearB rs ∧ P (.str (textS n rs))
def sp_Line_reprB : PrP := fun K C args P => ∃ n rs, args = [lineP C n rs] ∧ 1 ≤ n ∧ n ≤ 20 ∧ Rw rs ∧ NearB rs ∧ P (.str (reprS n rs))
def ts_Line_strB (K : PySem.W.Frag) (CLine : Addr) : TSp := tSeqP (tSetP 1 (tValP (tLcP (iTupP (tFldP CLine ("rows" : Str) (tVarP 0))) (gTupP 3 (gConsP (gNameP 2) (gConsP (gNameP 3) (gConsP (gNameP 4) (gNilP))))) (tYesP) (tJoinedP [tFmtP (tVarP 2), tConP (.str (":" : Str)), tFmtP (tVarP 3), tConP (.str ("-" : Str)), tFmtP (tVarP 4)]) [2, 3, 4]))) (tRetP (tJoinP (tConP (.str (" " : Str))) (tLstP (tConsP (tCBP rStr (tConsP (tFldP CLine ("seat_count" : Str) (tVarP 0)) (tNilP))) (tStarP (tVarP 1) (tNilP))))))
def ts_Line_reprB (K : PySem.W.Frag) (CLine : Addr) : TSp := tRetP (tJoinedP [tConP (.str ("Line('" : Str)), tFmtP (tStrOP CLine (sp_Line_strB K CLine) (tConsP (tVarP 0) (tNilP))), tConP (.str ("')" : Str))])
section
variable {K : PySem.W.Frag} {C : Addr} {XC : Str → Addr} {args : List PV} {P : PV → Prop} {PR : PV → Ow → Prop} {o : Ow}
theorem len_Line_strB (h : sp_Line_strB K C args P) : args.length = 1 := by obtain ⟨_, _, rfl, _⟩ := h; rfl
theorem len_Line_reprB (h : sp_Line_reprB K C args P) : args.length = 1 := by obtain ⟨_, _, rfl, _⟩ := h; rfl
end
theorem int_shortB {i : Int} (h0 : 0 ≤ i) (h : i < 10 ^ 500) : ((toString i : String) : Str).length ≤ 501 := by
 have e := int_text_length_le10 (a := i) (k := 500) (by decide) (by
  obtain ⟨n, rfl⟩ := Int.eq_ofNat_of_zero_le h0
  have : n < 10 ^ 500 := by omega
  exact this)
 rw [PySem.ofString_length]
 exact e
theorem log_ofB {i : Int} (h0 : 0 ≤ i) (h : i < 10 ^ 500) : i.natAbs.log2 < 1920 := by
 obtain ⟨n, rfl⟩ := Int.eq_ofNat_of_zero_le h0
 show n.log2 < 1920
 by_cases z : n = 0
 ·rw [z]; decide
 ·refine (Nat.log2_lt z).mpr ?_
  have h1 : n < 10 ^ 500 := by omega
  exact Nat.lt_trans h1 (by decide +kernel)
structure ShortB (r : Trip) : Prop where
 l : r.1.length ≤ 8
 s0 : 0 ≤ r.2.1
 e0 : 0 ≤ r.2.2
 s : r.2.1 < 10 ^ 500
 e : r.2.2 < 10 ^ 500
theorem rw_shortB {rs : List Trip} (h : Rw rs) (hn : NearB rs) : ∀ r ∈ rs, ShortB r := fun r hr => by
 obtain ⟨h1, h2, h3⟩ := h.each r hr
 have h4 := hn r hr
 have e : (decide (1 ≤ r.1.length) && (decide (r.1.length ≤ 8) && r.1.cps.toList.all fun c => decide (c ∈ abc.cps.toList))) = true := h1
 exact ⟨of_decide_eq_true (Bool.and_eq_true_iff.mp (Bool.and_eq_true_iff.mp e).2).1, h2, by omega, by omega, h4⟩
theorem rowS_lenB {r : Trip} (h : ShortB r) : (rowS r).length ≤ 1012 := by
 have b1 := int_shortB h.s0 h.s
 have b2 := int_shortB h.e0 h.e
 have l := h.l
 have c1 : ((":" : String) : Str).length = 1 := rfl
 have c2 : (("-" : String) : Str).length = 1 := rfl
 have c0 : (Str.empty).length = 0 := rfl
 unfold rowS
 rw [len_app, len_app, len_app, len_app, len_app]
 omega
theorem textS_lenB {n : Int} {rs : List Trip} (h1 : 1 ≤ n) (h2 : n ≤ 20) (hs : ∀ r ∈ rs, ShortB r) (hl : rs.length ≤ 24) : (textS n rs).length ≤ 30000 := by
 have b0 := int_short (i := n) (by omega) (by have : (20 : Int) < 10 ^ 60 := by decide
                                              omega)
 unfold textS
 rw [TL.join_eq]
 have := joined_len (m := 1012) (k := 1) (sep := ((" " : String) : Str)) rfl (l := ((toString n : String) : Str) :: rs.map rowS) fun y hy => by
  rcases List.mem_cons.mp hy with rfl | hy
  ·omega
  ·obtain ⟨r, hr, rfl⟩ := List.mem_map.mp hy
   exact rowS_lenB (hs r hr)
 rw [List.length_cons, List.length_map] at this
 omega
section
variable {K : PySem.W.Frag} {C : Addr} {XC : Str → Addr} {args : List PV} {P : PV → Prop} {PR : PV → Ow → Prop} {o : Ow}
theorem rd_Line_strB (h : sp_Line_strB K C args P) : ts_Line_strB K C { nx := fun _ => P .non, rt := fun x _ => P x } (startP 5 args) := by
 obtain ⟨n, rs, rfl, h1, h2, hw, hn, hp⟩ := h
 have e : startP 5 [lineP C n rs] = [.va (lineP C n rs), .no, .no, .no, .no] := rfl
 rw [e]
 have hs := rw_shortB hw hn
 have hl := hw.len
 have sz : 16777216 ≤ sizeLine := by decide
 refine w_seq (w_set (w_val (w_lc (w_itup (w_fld (w_var rfl ⟨rfl, _, rfl, ?_⟩))))))
 refine ⟨fun i acc η => acc = ((rs.take i).map rowS).map .str ∧ η = [.va (lineP C n rs), .no, .no, .no, .no], ⟨rfl, rfl⟩, ?_, ?_⟩
 ·rintro i x acc η hi ⟨rfl, rfl⟩
  rw [List.getElem?_map] at hi
  obtain ⟨r, hr, rfl⟩ := Option.map_eq_some_iff.mp hi
  have hsr := hs r (List.mem_of_getElem? hr)
  have b1 := int_shortB hsr.s0 hsr.s
  have b2 := int_shortB hsr.e0 hsr.e
  have l := hsr.l
  have c1 : ((":" : String) : Str).length = 1 := rfl
  have c2 : (("-" : String) : Str).length = 1 := rfl
  have c0 : (Str.empty).length = 0 := rfl
  refine ⟨rfl, w_g3 (w_yes (q_iteT ?_))⟩
  refine w_js (w_js1 (w_fmt (w_var (x := .str r.1) rfl ⟨by omega, _, rfl, by rw [len_app]; omega, ?_⟩)))
  refine w_js1 (w_con ⟨_, rfl, by rw [len_app, len_app]; omega, ?_⟩)
  refine w_js1 (w_fmt (w_var (x := .int r.2.1) rfl ⟨log_ofB hsr.s0 hsr.s, _, rfl, by rw [len_app, len_app, len_app]; omega, ?_⟩))
  refine w_js1 (w_con ⟨_, rfl, by rw [len_app, len_app, len_app, len_app]; omega, ?_⟩)
  refine w_js1 (w_fmt (w_var (x := .int r.2.2) rfl ⟨log_ofB hsr.e0 hsr.e, _, rfl, by rw [len_app, len_app, len_app, len_app, len_app]; omega, ?_⟩))
  refine w_js0 ⟨by rw [List.length_map, List.length_map, List.length_take]; omega, ?_, rfl⟩
  rw [take_map hr, List.map_append]
  rfl
 ·rintro acc η ⟨rfl, rfl⟩
  rw [List.length_map, List.take_length]
  simp only [List.set_cons_zero, List.set_cons_succ]
  have h20 : (20 : Int) < 10 ^ 60 := by decide
  have b0 := int_short (i := n) (by omega) (by omega)
  refine w_ret (w_join (w_con ⟨⟨_, rfl⟩, ?_⟩))
  refine w_lst (w_cons (w_cb (w_cons (w_fld (w_var rfl ⟨rfl, _, rfl, w_nil ⟨log_of60 (by omega) (by omega), ?_⟩⟩)))))
  refine w_star (w_var rfl (w_nil ⟨by rw [List.length_cons, List.length_append, List.length_map, List.length_map, List.length_nil]; omega, ?_⟩))
  refine ⟨((toString n : String) : Str) :: rs.map rowS, ?_, ?_, hp⟩
  ·rw [List.append_nil, strsOf, strsOf_mapS]; rfl
  ·have hsum := sum_le (ys := rs.map rowS) fun y hy => by
    obtain ⟨r, hr, rfl⟩ := List.mem_map.mp hy
    have := rowS_lenB (hs r hr)
    omega
   rw [List.length_map] at hsum
   rw [List.map_cons, List.sum_cons, List.length_cons, List.length_map, show ((" " : String) : Str).length = 1 from rfl]
   omega
theorem rd_Line_reprB (h : sp_Line_reprB K C args P) : ts_Line_reprB K C { nx := fun _ => P .non, rt := fun x _ => P x } (startP 1 args) := by
 obtain ⟨n, rs, rfl, h1, h2, hw, hn, hp⟩ := h
 have e : startP 1 [lineP C n rs] = [.va (lineP C n rs)] := rfl
 rw [e]
 have hs := rw_shortB hw hn
 have tl := textS_lenB (n := n) (by omega) h2 hs hw.len
 have sz : 16777216 ≤ sizeLine := by decide
 have c1 : (("Line('" : String) : Str).length = 6 := rfl
 have c2 : (("')" : String) : Str).length = 2 := rfl
 have c0 : (Str.empty).length = 0 := rfl
 refine w_ret (w_js (w_js1 (w_con ⟨_, rfl, by rw [len_app]; omega, ?_⟩)))
 refine w_js1 (w_fmt (w_strO (w_cons (w_var rfl (w_nil ⟨_, rfl, n, rs, rfl, h1, h2, hw, hn, ⟨_, rfl⟩, ?_⟩)))))
 refine ⟨by omega, _, rfl, by rw [len_app, len_app]; omega, ?_⟩
 refine w_js1 (w_con ⟨_, rfl, by rw [len_app, len_app, len_app]; omega, ?_⟩)
 exact w_js0 hp
end
theorem empty_app (x : Str) : Str.empty ++ x = x := TL.ext_tl (by rw [TL.tl_append]; rfl)
theorem rowS_eq (r : Trip) : r.1 ++ (":" : Str) ++ ((toString r.2.1 : String) : Str) ++ ("-" : Str) ++ ((toString r.2.2 : String) : Str) = rowS r := by
 unfold rowS
 rw [empty_app]
theorem near_B {rs : List Trip} (h : ∀ r ∈ rs, r.2.2 < 10 ^ 40) : NearB rs := fun r hr => Int.lt_trans (h r hr) (by decide +kernel)
theorem num_back {i : Int} (h0 : 0 ≤ i) : numW ((toString i : String) : Str) = some i := by
 obtain ⟨n, rfl⟩ := Int.eq_ofNat_of_zero_le h0
 have et : ((toString ((n : Nat) : Int) : String) : Str).cps.toList = TL.numL n := TL.tl_num n
 have dg := TL.numL_digits n
 have ne := TL.numL_ne n
 unfold numW
 rw [if_neg, if_neg, et, TL.numL_val]
 ·rintro ⟨z1, z2⟩
  rw [et] at z1
  have wl : ((toString ((n : Nat) : Int) : String) : Str).length = (TL.numL n).length := by rw [← et]; simp [Str.length]
  rw [wl] at z2
  -- a nought in front: the number is nought
  have key : ∀ m : Nat, (TL.numL m)[0]? = some 48 → (TL.numL m).length ≤ 1 := fun m => by
   induction m using Nat.strongRecOn with
   | _ m ih =>
    intro hz
    by_cases c : m < 10
    ·rw [TL.numL_lt c]; exact Nat.le_refl _
    ·exfalso
     rw [TL.numL_step (by omega)] at hz
     have nl := TL.numL_ne (m / 10)
     have hz2 : (TL.numL (m / 10))[0]? = some 48 := by
      cases q : TL.numL (m / 10) with
      | nil => exact absurd q nl
      | cons a l => rw [q] at hz; exact hz
     have l1 := ih (m / 10) (by omega) hz2
     -- then m / 10 is below ten and nought
     have small : m / 10 < 10 := by
      refine Classical.byContradiction fun y => ?_
      rw [TL.numL_step (by omega), List.length_append] at l1
      have := TL.numL_ne (m / 10 / 10)
      have : (TL.numL (m / 10 / 10)).length ≠ 0 := fun y => this (List.length_eq_zero_iff.mp y)
      have l2 : (TL.numL (m / 10 / 10)).length + 1 ≤ 1 := l1
      omega
     rw [TL.numL_lt small] at hz2
     have : 48 + m / 10 = 48 := by simpa using hz2
     omega
  have := key n z1
  omega
 ·rintro (z | z)
  ·rw [et] at z; exact ne z
  ·have : digB ((toString ((n : Nat) : Int) : String) : Str) = true := by
    unfold digB
    rw [et]
    refine List.all_eq_true.mpr fun c hc => decide_eq_true ?_
    have e : digS.cps.toList = [48, 49, 50, 51, 52, 53, 54, 55, 56, 57] := by decide +kernel
    rw [e]
    obtain ⟨h1, h2⟩ := dg c hc
    simp only [List.mem_cons, List.not_mem_nil, or_false]
    omega
   rw [this] at z; cases z
theorem joinL_cons {S p : List Nat} {ps : List (List Nat)} (h : ps ≠ []) : TL.joinL S (p :: ps) = p ++ (S ++ TL.joinL S ps) := by
 cases ps with
 | nil => exact absurd rfl h
 | cons q r => rfl
theorem join_spl (s : Nat) : ∀ (l acc : List Nat), TL.joinL [s] (TL.spl [s] 0 acc l) = acc ++ l
 | [], acc => by rw [TL.spl_nil, List.append_nil]; rfl
 | c :: l, acc => by
  rw [spl_one]
  split
  ·rename_i e
   rw [joinL_cons (fun z => by have := (spl_len s l []).1; rw [z] at this; exact absurd this (by decide)), join_spl s l [], e]
   simp
  ·rw [join_spl s l (acc ++ [c])]
   simp
theorem row_join (row : Str) : Txt.join (" " : Str) (wordsW row) = row := by
 refine TL.ext_tl ?_
 rw [TL.join_eq, TL.tl_join, words_tl, ey_space, join_spl, List.nil_append]
theorem num_empty : numW Str.empty = none := by unfold numW; rw [if_pos (.inl rfl)]
theorem app_assoc (a b c : Str) : a ++ b ++ c = a ++ (b ++ c) := TL.ext_tl (by simp only [TL.tl_append, List.append_assoc])
theorem rowX_inj {a b : Trip} (h : rowP a = rowP b) : a = b := by
 unfold rowP at h
 have h := List.cons.inj (PV.tup.inj h)
 have h2 := List.cons.inj h.2
 have h3 := (List.cons.inj h2.2).1
 exact Prod.ext (PV.str.inj h.1) (Prod.ext (PV.int.inj h2.1) (PV.int.inj h3))
theorem rowsX_inj : ∀ {a b : List Trip}, a.map rowP = b.map rowP → a = b
 | [], [], _ => rfl
 | [], _ :: _, h => by cases h
 | _ :: _, [], h => by cases h
 | a :: as, b :: bs, h => by
  rw [List.map_cons, List.map_cons] at h
  obtain ⟨h1, h2⟩ := List.cons.inj h
  rw [rowX_inj h1, rowsX_inj h2]
theorem read_uniq {row : Str} {n n' : Int} {rs rs' : List Trip} (h : ReadL row n rs) (h' : ReadL row n' rs') : n' = n ∧ rs' = rs := by
 obtain ⟨h1, h2, _⟩ := h
 obtain ⟨h1', h2', _⟩ := h'
 exact ⟨Option.some.inj (h1'.symm.trans h1), rowsX_inj (h2'.symm.trans h2)⟩
theorem read_notbad {row : Str} {n : Int} {rs : List Trip} (h : ReadL row n rs) : ¬ BadL row := by
 obtain ⟨h1, h2, n1, n2, hw⟩ := h
 unfold BadL
 rw [h1, h2]
 rintro (z | z)
 ·have : (decide (1 ≤ n) && decide (n ≤ 20)) = false := z
  rw [decide_eq_true n1, decide_eq_true n2] at this
  cases this
 ·have hv := valid_done rs 0 ("" : Str) (by have := hw.len; omega) (fun r hr => hw.each r hr) hw.asc (fun r hr => by
   have e : (decide (1 ≤ r.1.length) && (decide (r.1.length ≤ 8) && r.1.cps.toList.all fun c => decide (c ∈ abc.cps.toList))) = true := (hw.each r hr).1
   have h1 := of_decide_eq_true (Bool.and_eq_true_iff.mp e).1
   have rl : r.1.length = r.1.cps.toList.length := by simp [Str.length]
   show ("" : Str).cps.toList < r.1.cps.toList
   cases q : r.1.cps.toList with
   | nil => rw [rl, q] at h1; exact absurd h1 (by decide)
   | cons a l => exact List.nil_lt_cons a l)
  unfold vNT at z
  rw [hv] at z
  have hlen := congrArg List.length h2
  rw [List.length_map, List.length_map] at hlen
  omega
theorem w_caught {K : PySem.W.Frag} {cs : List Value} {ret : Str} {te : TXp} {tsu : Addr → Value → Option Addr → TSp} {η : EP'} {P : PV → EP' → Prop} (h : te (noOwn η) (fun x _ => P (.lst [.str ret, x]) η) fun C fs _ => PySem.W.exmAny K (.ref C) cs = some true ∧
 ∀ (f a : Addr) (d : Option Addr), (fs = [] ∨ d.isSome) → tsu a (.ref C) d { nx := fun _ => P .non η, rt := fun y _ => P y η } (ηZ f a d fs)) : tCaughtP K cs ret te tsu η P := h
theorem w_cmetX {C : Addr} {sp : SpX} {ta : TEp} {t : TAp} {η : EP'} {P : PV → EP' → Prop} {Zw : WZ} (h : ta η fun x η1 => x = .raw (.ref C) ∧ t η1 fun args η2 => sp (.raw (.ref C) :: args) (fun z => P z η2) fun C' fs => Zw C' fs η2) : tCMetX C sp ta t η P Zw := h
def RunsI (m : Nat) (l : List Nat) : Prop := ∀ i k, i + k ≤ l.length → (∀ j, i ≤ j → j < i + k → l[j]? ≠ some 32) → k ≤ m
theorem runs_mono {m n : Nat} {l : List Nat} (h : RunsI m l) (hm : m ≤ n) : RunsI n l := fun i k h1 h2 => Nat.le_trans (h i k h1 h2) hm
theorem runs_short {m : Nat} {l : List Nat} (h : l.length ≤ m) : RunsI m l := fun i k h1 _ => by omega
theorem runs_cat {m : Nat} {a b : List Nat} (ha : RunsI m a) (hb : RunsI m b) : RunsI m (a ++ 32 :: b) := fun i k h1 h2 => by
 rw [List.length_append, List.length_cons] at h1
 by_cases c1 : i + k ≤ a.length
 ·refine ha i k c1 fun j q1 q2 => ?_
  have := h2 j q1 q2
  rwa [List.getElem?_append_left (by omega)] at this
 ·by_cases c2 : a.length < i
  ·refine hb (i - a.length - 1) k (by omega) fun j q1 q2 => ?_
   have := h2 (j + a.length + 1) (by omega) (by omega)
   rw [List.getElem?_append_right (by omega)] at this
   have e : j + a.length + 1 - a.length = j + 1 := by omega
   rw [e] at this
   exact this
  ·exfalso
   have := h2 a.length (by omega) (by omega)
   rw [List.getElem?_append_right (Nat.le_refl _), Nat.sub_self] at this
   exact this rfl
theorem runs_ins {m : Nat} {a b : List Nat} {c : Nat} (h : RunsI m (a ++ b)) : RunsI (2 * m + 1) (a ++ c :: b) := fun i k h1 h2 => by
 have hl : (a ++ c :: b).length = a.length + b.length + 1 := by rw [List.length_append, List.length_cons]; omega
 rw [hl] at h1
 have left : ∀ i k, i + k ≤ a.length → (∀ j, i ≤ j → j < i + k → (a ++ c :: b)[j]? ≠ some 32) → k ≤ m := fun i k q h' => by
  refine h i k (by rw [List.length_append]; omega) fun j q1 q2 => ?_
  have := h' j q1 q2
  rw [List.getElem?_append_left (by omega)] at this ⊢
  exact this
 have right : ∀ i k, a.length < i → i + k ≤ a.length + b.length + 1 → (∀ j, i ≤ j → j < i + k → (a ++ c :: b)[j]? ≠ some 32) → k ≤ m := fun i k q q2 h' => by
  refine h (i - 1) k (by rw [List.length_append]; omega) fun j q1 q3 => ?_
  have := h' (j + 1) (by omega) (by omega)
  rw [List.getElem?_append_right (by omega)] at this ⊢
  have e : j + 1 - a.length = (j - a.length) + 1 := by omega
  rw [e] at this
  exact this
 by_cases c1 : i + k ≤ a.length
 ·have := left i k c1 h2; omega
 ·by_cases c2 : a.length < i
  ·have := right i k c2 h1 h2; omega
  ·have := left i (a.length - i) (by omega) fun j q1 q2 => h2 j q1 (by omega)
   have := right (a.length + 1) (i + k - a.length - 1) (Nat.lt_succ_self _) (by omega) fun j q1 q2 => h2 j (by omega) (by omega)
   omega
theorem spl_infix (s : Nat) : ∀ (l acc : List Nat), s ∉ acc → ∀ p ∈ TL.spl [s] 0 acc l, s ∉ p ∧ ∃ x z, acc ++ l = x ++ p ++ z
 | [], acc, ha, p, hp => by
  rw [TL.spl_nil] at hp
  rw [List.mem_singleton.mp hp]
  exact ⟨ha, [], [], by simp⟩
 | c :: l, acc, ha, p, hp => by
  rw [spl_one] at hp
  split at hp
  ·rcases List.mem_cons.mp hp with rfl | hp
   ·exact ⟨ha, [], c :: l, by simp⟩
   ·obtain ⟨h1, x, z, e⟩ := spl_infix s l [] List.not_mem_nil p hp
    rw [List.nil_append] at e
    exact ⟨h1, acc ++ c :: x, z, by rw [e]; simp⟩
  ·rename_i hc
   obtain ⟨h1, x, z, e⟩ := spl_infix s l (acc ++ [c]) (fun q => by
    rcases List.mem_append.mp q with q | q
    ·exact ha q
    ·exact hc (List.mem_singleton.mp q).symm) p hp
   exact ⟨h1, x, z, by rw [← e]; simp⟩
theorem words_of_runs {m : Nat} {row : Str} (h : RunsI m (TL.tl row)) : ∀ w ∈ wordsW row, w.length ≤ m := fun w hw => by
 have hm : TL.tl w ∈ TL.spl [32] 0 [] (TL.tl row) := by rw [← words_tl]; exact List.mem_map.mpr ⟨w, hw, rfl⟩
 obtain ⟨h1, x, z, e⟩ := spl_infix 32 _ [] List.not_mem_nil _ hm
 rw [List.nil_append] at e
 have el := congrArg List.length e
 rw [List.length_append, List.length_append] at el
 rw [TL.len_tl]
 refine h x.length _ (by omega) fun j q1 q2 q => ?_
 rw [e, List.getElem?_append_left (by rw [List.length_append]; omega), List.getElem?_append_right q1] at q
 exact h1 (List.mem_of_getElem? q)
theorem runs_join {m : Nat} : ∀ ps : List (List Nat), (∀ p ∈ ps, p.length ≤ m) → RunsI m (TL.joinL [32] ps)
 | [], _ => runs_short (Nat.zero_le _)
 | [p], h => runs_short (h p List.mem_cons_self)
 | p :: q :: r, h => runs_cat (runs_short (h p List.mem_cons_self)) (runs_join (q :: r) fun x hx => h x (List.mem_cons_of_mem _ hx))
theorem runs_of_words {m : Nat} {row : Str} (h : ∀ w ∈ wordsW row, w.length ≤ m) : RunsI m (TL.tl row) := by
 have e := row_join row
 rw [← e, TL.join_eq, TL.tl_join, ey_space]
 refine runs_join _ fun p hp => ?_
 obtain ⟨w, hw, rfl⟩ := List.mem_map.mp hp
 rw [← TL.len_tl]
 exact h w hw
theorem int_short40 {i : Int} (h0 : 0 ≤ i) (h : i < 10 ^ 40) : ((toString i : String) : Str).length ≤ 41 := by
 have e := int_text_length_le10 (a := i) (k := 40) (by decide) (by
  obtain ⟨n, rfl⟩ := Int.eq_ofNat_of_zero_le h0
  have : n < 10 ^ 40 := by omega
  exact this)
 rw [PySem.ofString_length]
 exact e
theorem tl_int {i : Int} (h0 : 0 ≤ i) : ∃ m : Nat, TL.tl ((toString i : String) : Str) = TL.numL m := by
 obtain ⟨n, rfl⟩ := Int.eq_ofNat_of_zero_le h0
 exact ⟨n, TL.tl_num n⟩
theorem abc_range {c : Nat} (h : c ∈ abc.cps.toList) : 97 ≤ c ∧ c ≤ 122 := by
 have e : abc.cps.toList = (List.range 26).map (· + 97) := by decide +kernel
 rw [e] at h
 obtain ⟨k, hk, rfl⟩ := List.mem_map.mp h
 have := List.mem_range.mp hk
 omega
theorem nm_chars {w : Str} (h : isNm (.str w) = true) : ∀ c ∈ TL.tl w, 97 ≤ c ∧ c ≤ 122 := fun c hc => by
 have e : (decide (1 ≤ w.length) && (decide (w.length ≤ 8) && w.cps.toList.all fun c => decide (c ∈ abc.cps.toList))) = true := h
 exact abc_range (of_decide_eq_true (List.all_eq_true.mp (Bool.and_eq_true_iff.mp (Bool.and_eq_true_iff.mp e).2).2 c hc))
theorem tl_row (r : Trip) : TL.tl (rowS r) = TL.tl r.1 ++ [58] ++ TL.tl ((toString r.2.1 : String) : Str) ++ [45] ++ TL.tl ((toString r.2.2 : String) : Str) := by
 rw [← rowS_eq]
 simp only [TL.tl_append, ey_colon, ey_dash]
theorem row_chars {r : Trip} (h1 : isNm (.str r.1) = true) (h2 : 0 ≤ r.2.1) (h3 : 0 ≤ r.2.2) : ∀ c ∈ TL.tl (rowS r), 45 ≤ c ∧ c ≤ 122 := fun c hc => by
 obtain ⟨a, ea⟩ := tl_int h2
 obtain ⟨b, eb⟩ := tl_int h3
 rw [tl_row, ea, eb] at hc
 simp only [List.mem_append, List.mem_singleton] at hc
 rcases hc with (((z | z) | z) | z) | z
 ·have := nm_chars h1 c z; omega
 ·omega
 ·have := TL.numL_digits a c z; omega
 ·omega
 ·have := TL.numL_digits b c z; omega
theorem row_len40 {r : Trip} (h1 : isNm (.str r.1) = true) (h2 : 0 ≤ r.2.1) (h3 : r.2.1 < r.2.2) (h4 : r.2.2 < 10 ^ 40) : (rowS r).length ≤ 92 := by
 have b1 := int_short40 h2 (by omega)
 have b2 := int_short40 (i := r.2.2) (by omega) h4
 have e : (decide (1 ≤ r.1.length) && (decide (r.1.length ≤ 8) && r.1.cps.toList.all fun c => decide (c ∈ abc.cps.toList))) = true := h1
 have l := of_decide_eq_true (Bool.and_eq_true_iff.mp (Bool.and_eq_true_iff.mp e).2).1
 rw [TL.len_tl] at b1 b2 l ⊢
 rw [tl_row]
 simp only [List.length_append, List.length_singleton]
 omega
structure Base (row : Str) : Prop where
 l : row.length ≤ 3000
 r : RunsI 92 (TL.tl row)
 a : ∀ c ∈ TL.tl row, 10 ≤ c ∧ c < 127
theorem words_textS {n : Int} {rs : List Trip} (n1 : 1 ≤ n) (hw : Rw rs) : wordsW (textS n rs) = ((toString n : String) : Str) :: rs.map rowS := by
 refine TL.split_join ey_space (by decide +kernel) (by simp) fun p hp => ?_
 rcases List.mem_cons.mp hp with rfl | hp
 ·obtain ⟨m, e⟩ := tl_int (i := n) (by omega)
  rw [e]
  exact TL.numL_free (by decide)
 ·obtain ⟨r, hr, rfl⟩ := List.mem_map.mp hp
  obtain ⟨h1, h2, h3⟩ := hw.each r hr
  intro z
  have := row_chars h1 h2 (by omega) 32 z
  omega
theorem base_text {n : Int} {rs : List Trip} (n1 : 1 ≤ n) (n2 : n ≤ 20) (hw : Rw rs) (hn : ∀ r ∈ rs, r.2.2 < 10 ^ 40) : Base (textS n rs) := by
 have b0 := int_short40 (i := n) (by omega) (by have : (20 : Int) < 10 ^ 40 := by decide
                                                omega)
 have hs : ∀ y ∈ ((toString n : String) : Str) :: rs.map rowS, y.length ≤ 92 := fun y hy => by
  rcases List.mem_cons.mp hy with rfl | hy
  ·omega
  ·obtain ⟨r, hr, rfl⟩ := List.mem_map.mp hy
   obtain ⟨h1, h2, h3⟩ := hw.each r hr
   exact row_len40 h1 h2 h3 (hn r hr)
 have hl := hw.len
 refine ⟨?_, runs_of_words (by rw [words_textS n1 hw]; exact hs), fun c hc => ?_⟩
 ·unfold textS
  rw [TL.join_eq]
  have := joined_len (m := 92) (k := 1) (sep := ((" " : String) : Str)) rfl hs
  rw [List.length_cons, List.length_map] at this
  omega
 ·unfold textS at hc
  rw [TL.join_eq, TL.tl_join] at hc
  have all : ∀ (ps : List (List Nat)), (∀ p ∈ ps, ∀ c ∈ p, 10 ≤ c ∧ c < 127) → ∀ c ∈ TL.joinL [32] ps, 10 ≤ c ∧ c < 127 := fun ps => by
   induction ps with
   | nil => intro _ c hc; exact absurd hc List.not_mem_nil
   | cons p ps ih =>
    intro h c hc
    by_cases e : ps = []
    ·subst e
     exact h p List.mem_cons_self c hc
    ·rw [joinL_cons e] at hc
     simp only [List.mem_append, List.mem_singleton] at hc
     rcases hc with z | z | z
     ·exact h p List.mem_cons_self c z
     ·omega
     ·exact ih (fun q hq => h q (List.mem_cons_of_mem _ hq)) c z
  have es : TL.tl ((" " : String) : Str) = [32] := ey_space
  rw [es] at hc
  refine all _ (fun p hp c hc => ?_) c hc
  obtain ⟨y, hy, rfl⟩ := List.mem_map.mp hp
  rcases List.mem_cons.mp hy with rfl | hy
  ·obtain ⟨m, e⟩ := tl_int (i := n) (by omega)
   rw [e] at hc
   have := TL.numL_digits m c hc
   omega
  ·obtain ⟨r, hr, rfl⟩ := List.mem_map.mp hy
   obtain ⟨h1, h2, h3⟩ := hw.each r hr
   have := row_chars h1 h2 (by omega) c hc
   omega
theorem trip_back {r : Trip} (h1 : isNm (.str r.1) = true) (h2 : 0 ≤ r.2.1) (h3 : 0 ≤ r.2.2) : tripW (rowS r) = rowP r := by
 obtain ⟨a, ea⟩ := tl_int h2
 have e1 : rowS r = r.1 ++ (":" : Str) ++ (((toString r.2.1 : String) : Str) ++ ("-" : Str) ++ ((toString r.2.2 : String) : Str)) := by
  rw [← rowS_eq]; simp only [app_assoc]
 have p1 : Txt.partition (rowS r) (":" : Str) = (r.1, (":" : Str), ((toString r.2.1 : String) : Str) ++ ("-" : Str) ++ ((toString r.2.2 : String) : Str)) := by
  rw [e1]
  exact TL.partition_app ey_colon fun z => by have := nm_chars h1 58 z; omega
 have p2 : Txt.partition (((toString r.2.1 : String) : Str) ++ ("-" : Str) ++ ((toString r.2.2 : String) : Str)) ("-" : Str) = (((toString r.2.1 : String) : Str), ("-" : Str), ((toString r.2.2 : String) : Str)) :=
  TL.partition_app ey_dash (by rw [ea]; exact TL.numL_free (by decide))
 unfold tripW partN partS partE
 rw [p1]
 dsimp only
 rw [p2]
 dsimp only
 rw [num_back h2, num_back h3]
 rfl
theorem read_back {n : Int} {rs : List Trip} (n1 : 1 ≤ n) (n2 : n ≤ 20) (hw : Rw rs) : ReadL (textS n rs) n rs := by
 have e := words_textS n1 hw
 refine ⟨?_, ?_, n1, n2, hw⟩
 ·rw [e]
  exact num_back (by omega)
 ·rw [e]
  show (rs.map rowS).map tripW = rs.map rowP
  rw [List.map_map]
  refine List.map_congr_left fun r hr => ?_
  obtain ⟨h1, h2, h3⟩ := hw.each r hr
  exact trip_back h1 h2 (by omega)
theorem tx_of {row : Str} {m : Nat} (hl : row.length ≤ 60000) (hm : m ≤ 500) (h : RunsI m (TL.tl row)) (ha : ∀ c ∈ TL.tl row, 10 ≤ c ∧ c < 127) : TxOk row := ⟨hl, words_of_runs (runs_mono h hm), ha⟩
theorem okT {row : Str} {l : List Nat} (e : TL.tl row = l) {m : Nat} (hl : l.length ≤ 60000) (hm : m ≤ 500) (h : RunsI m l) (ha : ∀ c ∈ l, 10 ≤ c ∧ c < 127) : TxOk row := by
 subst e
 exact tx_of (by rw [TL.len_tl]; exact hl) hm h ha
theorem chars_app {a b : List Nat} (ha : ∀ c ∈ a, 10 ≤ c ∧ c < 127) (hb : ∀ c ∈ b, 10 ≤ c ∧ c < 127) : ∀ c ∈ a ++ b, 10 ≤ c ∧ c < 127 := fun c hc => (List.mem_append.mp hc).elim (ha c) (hb c)
theorem chars_one {c : Nat} (h : 10 ≤ c ∧ c < 127) : ∀ x ∈ [c], 10 ≤ x ∧ x < 127 := fun x hx => by rw [List.mem_singleton.mp hx]; exact h
theorem b_ins {row : Str} {p c : Nat} (hb : Base row) (hc : 10 ≤ c ∧ c < 127) {x : Str} (e : TL.tl x = (TL.tl row).take p ++ ([c] ++ (TL.tl row).drop p)) : TxOk x := by
 have hl := hb.l
 rw [TL.len_tl] at hl
 refine okT e (m := 185) ?_ (by decide) ?_ (chars_app (fun c h => hb.a c (List.mem_of_mem_take h)) (chars_app (chars_one hc) fun c h => hb.a c (List.mem_of_mem_drop h)))
 ·simp only [List.length_append, List.length_take, List.length_drop, List.length_singleton]; omega
 ·have h2 := hb.r
  rw [← List.take_append_drop p (TL.tl row)] at h2
  exact runs_ins (m := 92) h2
theorem b_zero {row : Str} (hb : Base row) {x : Str} (e : TL.tl x = [48] ++ TL.tl row) : TxOk x := by
 have hl := hb.l
 rw [TL.len_tl] at hl
 refine okT e (m := 185) ?_ (by decide) (runs_ins (m := 92) (a := []) hb.r) (chars_app (chars_one (by decide)) hb.a)
 simp only [List.length_append, List.length_singleton]; omega
theorem all_trueX : ∀ n : Nat, blsOf (List.replicate n (.bl true)) = some (List.replicate n true)
 | 0 => rfl
 | n + 1 => by rw [List.replicate_succ, List.replicate_succ, blsOf, all_trueX n]; rfl
theorem vNT_rows {rs : List Trip} (hw : Rw rs) : vNT (rs.map rowP) = rs.length := by
 have hv := valid_done rs 0 ("" : Str) (by have := hw.len; omega) (fun r hr => hw.each r hr) hw.asc (fun r hr => by
  have e : (decide (1 ≤ r.1.length) && (decide (r.1.length ≤ 8) && r.1.cps.toList.all fun c => decide (c ∈ abc.cps.toList))) = true := (hw.each r hr).1
  have h1 := of_decide_eq_true (Bool.and_eq_true_iff.mp e).1
  have rl : r.1.length = r.1.cps.toList.length := by simp [Str.length]
  show ("" : Str).cps.toList < r.1.cps.toList
  cases q : r.1.cps.toList with
  | nil => rw [rl, q] at h1; exact absurd h1 (by decide)
  | cons a l => exact List.nil_lt_cons a l)
 unfold vNT
 rw [hv]
 omega
section
variable {K : PySem.W.Frag} {C : Addr} {XC : Str → Addr} {args : List PV} {P : PV → Prop} {PR : PV → Ow → Prop} {o : Ow}
theorem w_noNew {sr : SpRX} {dps : List PV} {t : TAp} {η : EP'} {Q : PV → EP' → Prop} (h : t η fun args η1 => sr (.o C []) (args ++ dps) (fun r o' => r = .non ∧ ∃ fs, o' = .o C fs ∧ Q (.ins C fs) η1) fun _ _ => False) : tNoX (tNewX C sr dps t) η Q := h
theorem w_noCM {sp : SpX} {ta : TEp} {t : TAp} {η : EP'} {Q : PV → EP' → Prop} (h : ta η fun x η1 => x = .raw (.ref C) ∧ t η1 fun args η2 => sp (.raw (.ref C) :: args) (fun z => Q z η2) fun _ _ => False) : tNoX (tCMetX C sp ta t) η Q := h
theorem w_noIM {m : Str} {sp : SpX} {ta : TEp} {t : TAp} {η : EP'} {Q : PV → EP' → Prop} (h : ta η fun x η1 => (∃ fs, x = .ins C fs ∧ fs.lookup m = none) ∧ t η1 fun args η2 => sp (.raw (.ref C) :: args) (fun z => Q z η2) fun _ _ => False) : tNoX (tIMetX C m sp ta t) η Q := h
theorem knR_rows {rs : List Trip} (hw : Rw rs) : KnR K (rowsP rs) := by
 have hl := hw.len
 have sz : 100 < sizeLine := by decide
 refine ⟨.inl rfl, fun xs z => ?_⟩
 have z : PV.tup (rs.map rowP) = .tup xs := z
 cases z
 refine ⟨by rw [List.length_map]; omega, fun x hx => ?_⟩
 obtain ⟨r, hr, rfl⟩ := List.mem_map.mp hx
 refine ⟨.inl rfl, fun n s e z => ?_⟩
 have z : PV.tup [.str r.1, .int r.2.1, .int r.2.2] = .tup [n, s, e] := z
 cases z
 refine ⟨.inl rfl, .inl rfl, .inl rfl, fun w q => ?_⟩
 cases q
 have e : (decide (1 ≤ r.1.length) && (decide (r.1.length ≤ 8) && r.1.cps.toList.all fun c => decide (c ∈ abc.cps.toList))) = true := (hw.each r hr).1
 have := of_decide_eq_true (Bool.and_eq_true_iff.mp (Bool.and_eq_true_iff.mp e).2).1
 omega
theorem made_ok {n : Int} {rs : List Trip} (n1 : 1 ≤ n) (n2 : n ≤ 20) (hw : Rw rs) {P : PV → Ow → Prop} {Zw : WC} (h : P .non (.o C (lineF n rs))) : sp_Line_initX K C XC (.o C []) [.int n, rowsP rs] P Zw := by
 have hsb : seatsB (.int n) = true := by show (decide (1 ≤ n) && decide (n ≤ 20)) = true; rw [decide_eq_true n1, decide_eq_true n2]; rfl
 refine ⟨_, _, rfl, rfl, .inl rfl, knR_rows hw, fun m us e1 e2 _ _ _ => ?_, fun z => ?_, fun _ z => ?_, fun xs _ e z => ?_⟩
 ·cases e1
  have e2 : PV.tup (rs.map rowP) = .tup (us.map rowP) := e2
  have e3 : rs = us := rowsX_inj (PV.tup.inj e2)
  subst e3
  exact h
 ·rw [hsb] at z; cases z
 ·cases z
 ·have e : PV.tup (rs.map rowP) = .tup xs := e
  cases e
  rw [vNT_rows hw, List.length_map] at z
  omega
theorem read_ok {n : Int} {rs : List Trip} (rf : RdF K XC) (n1 : 1 ≤ n) (n2 : n ≤ 20) (hw : Rw rs) (hn : ∀ r ∈ rs, r.2.2 < 10 ^ 40) {P : PV → Prop} {Zw : WC} (h : P (lineP C n rs)) : sp_Line_read K C XC [.raw (.ref C), .str (textS n rs)] P Zw := by
 have hr := read_back n1 n2 hw
 have hb := base_text n1 n2 hw hn
 have hl := hb.l
 refine ⟨_, rfl, rf, by omega, fun w hwm => by have := words_of_runs hb.r w hwm; omega, fun m us h1 h2 m1 m2 hu => ?_, fun z => absurd z (read_notbad hr)⟩
 obtain ⟨rfl, rfl⟩ := read_uniq hr ⟨h1, h2, m1, m2, hu⟩
 exact h
end
structure FunC (K : PySem.W.Frag) (x qual : Str) (st : Stmt) (c f : Addr) (fd : FuncData) : Prop where
 ex : ∃ (oc : Value) (od : Option Addr) (kV doc pm : Value) (an : Option Addr) (ct : Value) (osl : Array (Option Value)),
  fd = PySem.W.fnOf x qual (defArgs st) (defBody st) (defScope st) .none kV doc pm an (.ref c) ct ∧ K.lookup f = some ⟨oc, od, .func fd, osl⟩ ∧ PySem.W.codeIn K (.ref c) qual = true
 kp : PySem.W.keepIn K (.ref f) = true
section
variable {P : Program} {w : World} {K : PySem.W.Frag} {mg : Str → Option Value} {base : Heap} {T : List (Addr × Str)}
theorem FunC.fn {x qual : Str} {st : Stmt} {c f : Addr} {fd : FuncData} (F : FunC K x qual st c f fd) : Fun K x qual st f fd := by
 obtain ⟨oc, od, kV, doc, pm, an, ct, osl, h1, h2, h3⟩ := F.ex
 exact ⟨⟨oc, od, kV, doc, pm, an, .ref c, ct, osl, h1, h2, h3⟩, F.kp⟩
theorem okGPC {x qual : Str} {st : Stmt} {c f : Addr} {fd : FuncData} {N ps : List Str} {k : Nat} {sp : SpP} (Fn : FunC K x qual st c f fd) (S : FnScope N ps (defScope st)) (hl : ∀ args P, sp args P → args.length = ps.length) (hn : ps.length ≤ N.length)
  (hbody : ∀ (A : Around) (outer : List Env) (s : Shared) (H : Hp) (E : XK), A.guards = some [] → Room k (A.deeper (envOfC qual (defScope st) s.heap.objs.size f (.ref c))) →
   ∃ ts, PSs (cxOf CX0 P w K mg base N qual (defScope st) f (.ref c) A outer s H E).nox (defBody st) (upS K T ts) ∧ ∀ args P, sp args P → ts { nx := fun _ => P .non, rt := fun x _ => P x } (startP N.length args)) :
  FnG P w K mg base (k + 1) f fd ps (upSp K T sp) := by
 obtain ⟨oc, od, kV, doc, pm, an, ct, osl, rfl, lk, hcd⟩ := Fn.ex
 refine ⟨len_sp hl, fun A outer s H args us vs Q E hg hr e0 hb rv hs => ?_⟩
 refine LamX.run_ofS lk hcd S hr e0 hb rv (len_sp hl _ _ _ _ hs) fun hr' => ?_
 obtain ⟨ts, d, rd⟩ := hbody A outer s H E hg hr'
 exact ⟨_, d.nox, body_sp hs (fun args P hs => by rw [hl _ _ hs]; exact hn) rd⟩
end
def kindB (K : PySem.W.Frag) (C : Addr) (cs : List Addr) (sS sT sZ : Addr) (n : Nat) : Bool :=
 decide (n < 22) && ((cs.zip (List.range 22)).all (fun p => decide (PySem.W.kitOne K (.ref C) (.ref p.1) = some (decide (p.2 = n)))) && (decide (PySem.W.kitOne K (.ref C) (.ref sS) = some (decide (n < 13))) && (decide (PySem.W.kitOne K (.ref C) (.ref sT) = some (decide (12 < n) && decide (n < 19))) && (decide (PySem.W.kitOne K (.ref C) (.ref sZ) = some (decide (18 < n))) &&
 (decide (PySem.W.kitOne K (.ref C) (.type "ValueError") = some (decide (n < 13))) && (decide (PySem.W.kitOne K (.ref C) (.type "LookupError") = some (decide (12 < n) && decide (n < 19))) && decide (PySem.W.kitOne K (.ref C) (.type "ArithmeticError") = some (decide (18 < n)))))))))
theorem kindF_of {K : PySem.W.Frag} {XC : Str → Addr} {C : Addr} {cs : List Addr} {sS sT sZ : Addr} {n : Nat} (h : kindB K C cs sS sT sZ n = true) (e : L2.ExcC K C) (hx : kindNames.map XC = cs) (h1 : XC ("SeatError" : Str) = sS) (h2 : XC ("StateError" : Str) = sT) (h3 : XC ("SizeError" : Str) = sZ) : KindF K XC C n := by
 unfold kindB at h
 simp only [Bool.and_eq_true, decide_eq_true_eq] at h
 obtain ⟨a1, a2, a3, a4, a5, a6, a7, a8⟩ := h
 subst hx h1 h2 h3
 refine ⟨e, a1, fun j s hj => ?_, a3, a4, a5, a6, a7, a8⟩
 have jl : j < 22 := (List.getElem?_eq_some_iff.mp hj).1
 have hm : (XC s, j) ∈ (kindNames.map XC).zip (List.range 22) := by
  refine List.mem_of_getElem? (i := j) ?_
  rw [List.getElem?_zip_eq_some]
  exact ⟨by rw [List.getElem?_map, hj]; rfl, by rw [List.getElem?_range jl]⟩
 have := List.all_eq_true.mp a2 _ hm
 exact of_decide_eq_true this
section
variable {X : Cx} {T : List (Addr × Str)} {e : Expr} {t1 t2 : TEp}
def tEitP (t1 t2 : TEp) : TEp := fun η P => t1 η P ∨ t2 η P
theorem z_eit (h1 : PE X e (up X.K T t1)) (h2 : PE X e (up X.K T t2)) : PE X e (up X.K T (tEitP t1 t2)) := ⟨fun pins s σ H Q I q => by
 obtain ⟨F, η, P, R, h, k⟩ := q
 rcases h with h | h
 ·exact h1.run pins s σ H Q I ⟨F, η, P, R, h, k⟩
 ·exact h2.run pins s σ H Q I ⟨F, η, P, R, h, k⟩⟩
end
section
variable {X : Cx} {T : List (Addr × Str)} {k : Nat} {f C : Addr} {fd : FuncData} {ps ks : List Str} {sr : SpRX} {x : Str} {p pos : Pos} {kws : List Keyword} {tk : TAp}
def tNewKX (C : Addr) (sr : SpRX) (m : Nat) (perm : List PV → List PV) (tk : TAp) : TEp := fun η P => tk η fun zs η1 => zs.length = m ∧ sr (.o C []) (perm zs) (fun r o' => r = .non ∧ ∃ fs, o' = .o C fs ∧ P (.ins C fs) η1) fun _ _ => False
theorem z_newKX {perm : List PV → List PV} {permV : List V → List V} {g : List Value → List Value → List Value} (M : Mk X.K C f) (Fn : FnOk X.prog X.w X.K X.mg X.base (L2N.CX X.prog X.w) k f fd ps (upSpRX X.K T sr)) (hr : Room (k + 1) X.A) (hg : Gl X x) (hm : X.mg x = some (.ref C))
  (hb : KBn X.K fd ps (0 + 1) ks g fun vs zs => vs ++ permV zs) (hp : ∀ {O H zs vs}, zs.length = ks.length → Reps X.K O H zs vs → Reps X.K O H (perm zs) (permV vs)) (hkw : PK X kws (upA X.K T tk))
  (hall : (backToKw pos (keywordEach kws X.env)).all (·.1.isSome) = true := by rfl) (hks : (backToKw pos (keywordEach kws X.env)).filterMap (·.1) = ks := by rfl) (hdb : (x == ("__debug__" : Str)) = false := by decide)
  (hpl : ((backTo pos (starEach [] X.env)).any (·.1) || (backToKw pos (keywordEach kws X.env)).any (·.1.isNone)) = false := by rfl) :
  PE X (.Call (.Name x p) [] kws pos) (up X.K T (tNewKX C sr ks.length perm tk)) := by
 refine PE.weak (pe_makeN0 (E := fun _ _ _ => False) M Fn hr hg hm hb (fun pins σ H s e s' I h => L2N.passAt (W := fun _ _ _ _ => False) L2N.takes0 σ pins H s e s' I h) hkw hall hks hdb hpl) fun σ H Q q => ?_
 obtain ⟨F, η, P, R, h, k⟩ := q
 refine ⟨F, η, _, R, h, fun zs η1 vs H1 h1 e1 R1 r1 => ?_⟩
 obtain ⟨hl, h1⟩ := h1
 refine ⟨rfl, by rw [r1.len]; exact hl, fun x dx nx ndx nex => ?_⟩
 have s1 : Same H1 (upd (upd H1 dx (.own x)) x (.ins C dx [])) := fun b u hb => by
  rw [upd_ne (ne_of_none hb nx), upd_ne (ne_of_none hb ndx)]; exact hb
 have nO : ¬ Oof F σ η1 x := fun z => R1.trO x z (Nw.of nx)
 have c1 : Car (Oof F σ η1) (With (Oof F σ η1) x) H1 (upd (upd H1 dx (.own x)) x (.ins C dx [])) := fun b u n hb _ => ⟨s1 b u hb, fun z => z.elim n (ne_of_none hb nx)⟩
 refine ⟨Oof F σ η1, x, _, .o C [], _, _, _, rfl, nO, R1.trO.same s1, R1.tb.ext s1, ⟨dx, [], upd_same, by unfold RepF; rfl⟩, hp hl (r1.car c1), h1, fun z o' v H2 pz g tb ho' rz => ?_, fun C' fs d H2 z g tb xa => z⟩
 obtain ⟨rfl, fs, rfl, pz⟩ := pz
 obtain ⟨dx', ws, hx, rf⟩ := ho'
 have g' : Gr H1 H2 := ⟨fun b u hb t => g.keep b u (ne_of_none hb nx) (s1 b u hb) t, fun b hb => g.live b fun q => hb fun o z => q o (s1 b o z)⟩
 refine ⟨rz.non_, k _ η1 _ H2 pz (e1.trans g'.ext) (R1.gr g' tb) ?_⟩
 unfold Rep
 exact ⟨x, dx', ws, rfl, nO, hx, rf.mono fun b z => .inl z⟩
end
def EqSelf (C : Addr) (x : PV) : Prop := (∃ n rs, x = lineP C n rs ∧ ∀ r ∈ rs, GoodR r) ∨ x = .dic [] ∨ ∃ d, toD x = some d ∧ SeqAt.shaped d = true
def RefX (K : PySem.W.Frag) (C : Addr) (x : PV) : Prop := (∃ row, x = .str row ∧ PyData.strOk row = true ∧ row.length ≤ 100000 ∧ (∀ w ∈ wordsW row, w.length ≤ 640) ∧ BadL row) ∨ (Kn K x ∧ isSt x = false ∧ EqSelf C x)
def sp_Line_readE : PrX3 := fun K C XC args P Zw => sp_Line_read K C XC args P Zw ∨ ∃ x, args = [.raw (.ref C), x] ∧ Kn K x ∧ isSt x = false ∧ Zw (XC ("InvalidText" : Str)) [(("text" : Str), x)]
def sp_law_refused : PrPX3 := fun K C XC args P => ∃ x, args = [x] ∧ ClsT K C ∧ TxF K XC ∧ RefX K C x ∧ P (.bl true)
def sp_law_shows : PrP := fun K C args P => ∃ n rs, args = [lineP C n rs] ∧ 1 ≤ n ∧ n ≤ 20 ∧ Rw rs ∧ Near rs ∧ P (.str (showsD n rs).shown)
def sp_law_right4 : PrRX3 := fun K C XC o args P => Pool o ∧ args = [] ∧ ClsT K C ∧ TxF K XC ∧ ∀ o', Pool o' → P (.bl true) o'
def sp_law4 : PrPX3 := fun K C XC args P => ∃ ns : List Int, args = [.scr ns] ∧ ns.length ≤ 63 ∧ ClsT K C ∧ TxF K XC ∧ P (.bl true)
def ts_Line_readE (K : PySem.W.Frag) (CLine : Addr) (XC : Str → Addr) : TSX := tSeqX (tIfX (tNotP (tBlP (tCBP (rIsI K) (tConsP (tVarP 1) (tConsP (tConP (.raw (.ty "str"))) (tNilP)))))) (tRaiseX (XC ("InvalidText" : Str)) ("text" : Str) (tVarP 1)) (tPlX (tNextP))) (tSeqX (tPlX (tSetP 2 (tSplitP (tVarP 1) (tConP (.str (" " : Str)))))) (tSeqX (tPlX (tSetP 3 (tCBP rTuple (tConsP (tValP (tLcP (iListP (tSliceP (tVarP 2) (tPartP (tConP (.int 1))) (tNoPartP))) (gNameP 4) (tYesP) (tCallP (sp_trip_written K CLine) [] (tConsP (tVarP 4) (tNilP))) [4])) (tNilP))))) (tTryRX K [.ref (XC ("InvalidSeats" : Str)), .ref (XC ("InvalidTrips" : Str))] (XC ("InvalidText" : Str)) ("text" : Str) (tRetX (tNewLX 0 CLine (sp_Line_initX K CLine XC) [] (tConsP (tCallP (sp_number_written K CLine) [] (tConsP (tOpP rIxP (tVarP 2) (tConP (.int 0))) (tNilP))) (tConsP (tVarP 3) (tNilP))))) (tVarP 1))))
def ts_law_refused (K : PySem.W.Frag) (CLine : Addr) (XC : Str → Addr) : TSp := tSeqP (tSetP 1 (tCaughtP K [.ref (XC ("SeatError" : Str)), .ref (XC ("StateError" : Str)), .ref (XC ("SizeError" : Str))] ("returned" : Str) (tCMetX CLine (sp_Line_readE K CLine XC) (tConP (.raw (.ref CLine))) (tConsP (tVarP 0) (tNilP))) (ts_law_caught K CLine XC))) (tRetP (tAndVP (tOpP (rEqI false) (tOpP rIxP (tVarP 1) (tConP (.int 0))) (tConP (.str ("text" : Str)))) (tAndVP (tEitP (tEitP (tEqOP K CLine (sp_Line_eq K CLine) false (tOpP rIxP (tVarP 1) (tConP (.int 1))) (tVarP 0)) (tOpP rEqD0 (tOpP rIxP (tVarP 1) (tConP (.int 1))) (tVarP 0))) (tOpP (rEqP false) (tOpP rIxP (tVarP 1) (tConP (.int 1))) (tVarP 0))) (tOpP (rEqI false) (tCBP rLen (tConsP (tVarP 1) (tNilP))) (tConP (.int 2))))))
def ts_law_shows (K : PySem.W.Frag) (CLine : Addr) : TSp := tSeqP (tSetP 1 (tLstP (tConsP (tPropP CLine (sp_Line_capacity K CLine) (tVarP 0)) (tConsP (tPropP CLine (sp_Line_trips K CLine) (tVarP 0)) (tConsP (tPropP CLine (sp_Line_order K CLine) (tVarP 0)) (tConsP (tPropP CLine (sp_Line_peak K CLine) (tVarP 0)) (tConsP (tLenOP CLine (sp_Line_len K CLine) (tConsP (tVarP 0) (tNilP))) (tConsP (tBoolOP CLine (sp_Line_len K CLine) (tConsP (tVarP 0) (tNilP))) (tConsP (tStrOP CLine (sp_Line_strB K CLine) (tConsP (tVarP 0) (tNilP))) (tConsP (tStrOP CLine (sp_Line_reprB K CLine) (tConsP (tVarP 0) (tNilP))) (tNilP))))))))))) (tRetP (tCBP rRepr (tConsP (tOpP rAdd (tVarP 1) (tLstP (tConsP (tListWP CLine ("walk" : Str) ("queue" : Str) (tVarP 0)) (tConsP (tMethP CLine ("load" : Str) (sp_Line_load K CLine) [] (tVarP 0) (tConsP (tConP (.int 0)) (tNilP))) (tConsP (tMethP CLine ("load" : Str) (sp_Line_load K CLine) [] (tVarP 0) (tConsP (tConP (.int 7)) (tNilP))) (tNilP)))))) (tNilP))))
def ts_law_right4 (K : PySem.W.Frag) (CLine : Addr) (XC : Str → Addr) : TSp := tSeqP (tParP [1, 2] (tConsV (tOpP rAdd (tConP (.int 1)) (tCallRP 0 (sp_law_draw K CLine) (tConsP (tConP (.int 20)) (tNilP)))) (tConsV (tCallRP 0 (sp_law_words K CLine) (tConsP (tCallRP 0 (sp_law_draw K CLine) (tConsP (tConP (.int 25)) (tNilP))) (tNilP))) (tNilAr)))) (tSeqP (tSetP 3 (tCallRP 0 (sp_law_rides K CLine) (tConsP (tVarP 2) (tConsP (tConP (.int 30)) (tNilP))))) (tSeqP (tSetP 4 (tNoX (tNewX CLine (sp_Line_initX K CLine XC) [] (tConsP (tVarP 1) (tConsP (tVarP 3) (tNilP)))))) (tSeqP (tSetP 5 (tStrOP CLine (sp_Line_strB K CLine) (tConsP (tVarP 4) (tNilP)))) (tSeqP (tSetP 6 (tLstP (tConsP (tConP .non) (tConsP (tConP (.int 0)) (tConsP (tConP (.int 5)) (tConsP (tConP (.bl true)) (tConsP (tTupP (tNilP)) (tConsP (tLstP (tNilP)) (tConsP (tDic0P) (tConsP (tVarP 3) (tConsP (tVarP 4) (tConsP (tTupP (tConsP (tVarP 5) (tNilP))) (tConsP (tLstP (tConsP (tVarP 5) (tNilP))) (tConsP (tTupP (tConsP (tVarP 1) (tConsP (tVarP 3) (tNilP)))) (tConsP (tOpP rPow (tConP (.int 10)) (tConP (.int 30))) (tConsP (tVarP 2) (tNilP))))))))))))))))) (tSeqP (tIfSP (tNotP (tBlP (tCBP rAllP (tConsP (tValP (tLcP (iListP (tOpP rAdd (tVarP 6) (tLstP (tConsP (tOpP rAdd (tVarP 5) (tConP (.str (" " : Str)))) (tConsP (tOpP rAdd (tConP (.str (" " : Str))) (tVarP 5)) (tConsP (tOpP rAdd (tConP (.str ("0" : Str))) (tVarP 5)) (tConsP (tOpP rAdd (tVarP 5) (tConP (.str (":" : Str)))) (tConsP (tOpP rAdd (tVarP 5) (tConP (.str ("-1" : Str)))) (tNilP))))))))) (gNameP 8) (tYesP) (tCallP (sp_law_refused K CLine XC) [] (tConsP (tVarP 8) (tNilP))) [8])) (tNilP))))) (tRetP (tConP (.bl false))) (tNextP)) (tSeqP (tSetFP 7 (tLstFP (tConsP (tNoX (tCMetX CLine (sp_Line_readE K CLine XC) (tConP (.raw (.ref CLine))) (tConsP (tVarP 5) (tNilP)))) (tConsP (tNoX (tNewX CLine (sp_Line_initX K CLine XC) [] (tConsP (tVarP 1) (tConsP (tPropP CLine (sp_Line_trips K CLine) (tVarP 4)) (tNilP))))) (tConsP (tNoX (tIMetX CLine ("read" : Str) (sp_Line_readE K CLine XC) (tVarP 4) (tConsP (tVarP 5) (tNilP)))) (tConsP (tNoX (tCMetX CLine (sp_Line_readE K CLine XC) (tConP (.raw (.ref CLine))) (tConsP (tStrOP CLine (sp_Line_strB K CLine) (tConsP (tNoX (tCMetX CLine (sp_Line_readE K CLine XC) (tConP (.raw (.ref CLine))) (tConsP (tVarP 5) (tNilP)))) (tNilP))) (tNilP)))) (tNilP))))))) (tSeqP (tAppP 7 (tNewKX CLine (sp_Line_initX K CLine XC) 2 (fun zs => zs.reverse) (tConsP (tPropP CLine (sp_Line_trips K CLine) (tNoX (tCMetX CLine (sp_Line_readE K CLine XC) (tConP (.raw (.ref CLine))) (tConsP (tVarP 5) (tNilP))))) (tConsP (tPropP CLine (sp_Line_capacity K CLine) (tNoX (tCMetX CLine (sp_Line_readE K CLine XC) (tConP (.raw (.ref CLine))) (tConsP (tVarP 5) (tNilP))))) (tNilP))))) (tRetP (tCBP rAllP (tConsP (tValP (tLcP (iListP (tVarP 7)) (gNameP 9) (tYesP) (tAndVP (tOpP (rEqI false) (tCallP (sp_law_shows K CLine) [] (tConsP (tVarP 9) (tNilP))) (tCallP (sp_law_shows K CLine) [] (tConsP (tVarP 4) (tNilP)))) (tEqOP K CLine (sp_Line_eq K CLine) false (tVarP 9) (tVarP 4))) [9])) (tNilP)))))))))))
def ts_law4 (K : PySem.W.Frag) (CLine : Addr) (XC : Str → Addr) : TSp := tRetP (tCBP rAllP (tConsP (tValP (tLcP (iRng1P (tCBP rMax2 (tConsP (tConP (.int 2)) (tConsP (tCBP rMin2 (tConsP (tCBP rLen (tConsP (tVarP 0) (tNilP))) (tConsP (tConP (.int 4)) (tNilP)))) (tNilP))))) (gNameP 1) (tYesP) (tCallRFP (tCallFP (sp_law_pool K CLine) (tConsP (tCallP (sp_law_cell K CLine) [] (tConsP (tVarP 0) (tConsP (tVarP 1) (tNilP)))) (tNilP))) (sp_law_right4 K CLine XC) (tNilP)) [1])) (tNilP)))
section
variable {K : PySem.W.Frag} {C : Addr} {XC : Str → Addr} {args : List PV} {P : PV → Prop} {PR : PV → Ow → Prop} {o : Ow} {Zw : WC}
theorem len_Line_readE (h : sp_Line_readE K C XC args P Zw) : args.length = 2 := by
 rcases h with h | ⟨_, rfl, _⟩
 ·exact len_Line_read h
 ·rfl
theorem len_law_refused (h : sp_law_refused K C XC args P) : args.length = 1 := by obtain ⟨_, rfl, _⟩ := h; rfl
theorem len_law_shows (h : sp_law_shows K C args P) : args.length = 1 := by obtain ⟨_, _, rfl, _⟩ := h; rfl
theorem len_law_right4 (h : sp_law_right4 K C XC o args PR) : args.length = 0 := by obtain ⟨_, rfl, _⟩ := h; rfl
theorem len_law4 (h : sp_law4 K C XC args P) : args.length = 1 := by obtain ⟨_, rfl, _⟩ := h; rfl
end
theorem q_eqN4 {a b : Int} {P : PV → Prop} (h : P (.bl (decide (a = b)))) : rEqI false (.int a) (.int b) P := h
theorem w_eit1 {t1 t2 : TEp} {η : EP'} {P : PV → EP' → Prop} (h : t1 η P) : tEitP t1 t2 η P := .inl h
theorem w_eit2 {t1 t2 : TEp} {η : EP'} {P : PV → EP' → Prop} (h : t2 η P) : tEitP t1 t2 η P := .inr h
section
variable {K : PySem.W.Frag} {C : Addr} {XC : Str → Addr} {args : List PV} {P : PV → Prop} {PR : PV → Ow → Prop} {o : Ow} {Zw : WC}
theorem rd_Line_readE (h : sp_Line_readE K C XC args P Zw) : ts_Line_readE K C XC { nx := fun _ => P .non, rt := fun x _ => P x } (fun C fs _ => Zw C fs) (startP 5 args) := by
 rcases h with h | ⟨x, rfl, kn, st, hz⟩
 ·exact rd_Line_read h
 ·have e : startP 5 [.raw (.ref C), x] = [.va (.raw (.ref C)), .va x, .no, .no, .no] := rfl
  rw [e]
  refine w_seqX1 (w_ifX1 (w_not (w_bl (w_cb (w_cons (w_var (x := x) rfl (w_cons (w_con (w_nil (isi_str kn ?_))))))))))
  rw [st]
  exact q_iteT (w_raiseX1 (w_var (x := x) rfl hz))
theorem rd_law_refused (h : sp_law_refused K C XC args P) : ts_law_refused K C XC { nx := fun _ => P .non, rt := fun x _ => P x } (startP 2 args) := by
 obtain ⟨x, rfl, hC, tf, hx, hp⟩ := h
 have e : startP 2 [x] = [.va x, .no] := rfl
 rw [e]
 have es : EqSelf C x := by
  rcases hx with ⟨row, rfl, so, _⟩ | ⟨_, _, h⟩
  ·exact .inr (.inr ⟨.str row, rfl, by simp [SeqAt.shaped, PyData.canLay0, PyData.depth, so]⟩)
  ·exact h
 refine w_seq (w_set (w_caught (w_cmetX (w_con ⟨rfl, w_cons (w_var (x := x) rfl (w_nil ?_))⟩))))
 have rest : ∀ η' : EP', η' = [.va x, .va (.lst [.str ("text" : Str), x])] →
   (tRetP (tAndVP (tOpP (rEqI false) (tOpP rIxP (tVarP 1) (tConP (.int 0))) (tConP (.str ("text" : Str)))) (tAndVP (tEitP (tEitP (tEqOP K C (sp_Line_eq K C) false (tOpP rIxP (tVarP 1) (tConP (.int 1))) (tVarP 0)) (tOpP rEqD0 (tOpP rIxP (tVarP 1) (tConP (.int 1))) (tVarP 0))) (tOpP (rEqP false) (tOpP rIxP (tVarP 1) (tConP (.int 1))) (tVarP 0))) (tOpP (rEqI false) (tCBP rLen (tConsP (tVarP 1) (tNilP))) (tConP (.int 2)))))) { nx := fun _ => P .non, rt := fun x _ => P x } η' := by
  rintro η' rfl
  refine w_ret (w_andV (w_op (w_op (w_var (x := .lst [.str ("text" : Str), x]) rfl (w_con (q_ix (x := .str ("text" : Str)) rfl (w_con (q_eqS0 ?_))))))))
  rw [decide_eq_true rfl]
  have fin : tOpP (rEqI false) (tCBP rLen (tConsP (tVarP 1) (tNilP))) (tConP (.int 2)) [.va x, .va (.lst [.str ("text" : Str), x])] (fun x _ => P x) := by
   refine w_op (w_cb (w_cons (w_var (x := .lst [.str ("text" : Str), x]) rfl (w_nil (q_len (w_con (q_eqN4 ?_)))))))
   exact hp
  refine w_andV ?_
  rcases es with ⟨n, rs, rfl, hg⟩ | rfl | ⟨d, td, sd⟩
  ·refine w_eit1 (w_eit1 (w_eqO (w_op (w_var (x := .lst [.str ("text" : Str), lineP C n rs]) rfl (w_con (q_ix (x := lineP C n rs) rfl (w_var (x := lineP C n rs) rfl ⟨⟨_, rfl⟩, eqTy_line, n, rs, _, rfl, hC, hg, .inr ⟨n, rs, rfl, hg, _, rfl, ?_⟩⟩)))))))
   rw [decide_eq_true (⟨rfl, rfl⟩ : n = n ∧ rs = rs)]
   exact fin
  ·exact w_eit1 (w_eit2 (w_op (w_op (w_var (x := .lst [.str ("text" : Str), .dic []]) rfl (w_con (q_ix (x := .dic []) rfl (w_var (x := .dic []) rfl fin)))))))
  ·exact w_eit2 (w_op (w_op (w_var (x := .lst [.str ("text" : Str), x]) rfl (w_con (q_ix (x := x) rfl (w_var (x := x) rfl (q_eqSame td sd fin)))))))
 have caught : ∀ (f a : Addr) (d : Option Addr), ([(("text" : Str), x)] = [] ∨ d.isSome) → ts_law_caught K C XC a (.ref (XC ("InvalidText" : Str))) d { nx := fun _ => (fun (y : PV) (η' : EP') => tRetP (tAndVP (tOpP (rEqI false) (tOpP rIxP (tVarP 1) (tConP (.int 0))) (tConP (.str ("text" : Str)))) (tAndVP (tEitP (tEitP (tEqOP K C (sp_Line_eq K C) false (tOpP rIxP (tVarP 1) (tConP (.int 1))) (tVarP 0)) (tOpP rEqD0 (tOpP rIxP (tVarP 1) (tConP (.int 1))) (tVarP 0))) (tOpP (rEqP false) (tOpP rIxP (tVarP 1) (tConP (.int 1))) (tVarP 0))) (tOpP (rEqI false) (tCBP rLen (tConsP (tVarP 1) (tNilP))) (tConP (.int 2))))) { nx := fun _ => P .non, rt := fun x _ => P x } (η'.set 1 (.va y))) .non [.va x, .no], rt := fun y _ => (fun (y : PV) (η' : EP') => tRetP (tAndVP (tOpP (rEqI false) (tOpP rIxP (tVarP 1) (tConP (.int 0))) (tConP (.str ("text" : Str)))) (tAndVP (tEitP (tEitP (tEqOP K C (sp_Line_eq K C) false (tOpP rIxP (tVarP 1) (tConP (.int 1))) (tVarP 0)) (tOpP rEqD0 (tOpP rIxP (tVarP 1) (tConP (.int 1))) (tVarP 0))) (tOpP (rEqP false) (tOpP rIxP (tVarP 1) (tConP (.int 1))) (tVarP 0))) (tOpP (rEqI false) (tCBP rLen (tConsP (tVarP 1) (tNilP))) (tConP (.int 2))))) { nx := fun _ => P .non, rt := fun x _ => P x } (η'.set 1 (.va y))) y [.va x, .no] } (ηZ f a d [(("text" : Str), x)]) := fun f a d hd => by
  refine caught_ok tf.kd (.inl ⟨("text" : Str), x, rfl, rfl, rfl, tf.xf, hd.resolve_left (by simp)⟩) (by show 1 ≤ 1000; decide) fun _ => ?_
  dsimp only
  have kw : kindW 9 = ("text" : Str) := rfl
  rw [kw]
  exact rest _ rfl
 rcases hx with ⟨row, rfl, _, hl, hw, hb⟩ | ⟨kn, st, _⟩
 ·exact .inl ⟨row, rfl, tf.rd, hl, hw, fun n rs h1 h2 n1 n2 hr => absurd hb (read_notbad ⟨h1, h2, n1, n2, hr⟩), fun _ => ⟨tf.ex, caught⟩⟩
 ·exact .inr ⟨x, rfl, kn, st, tf.ex, caught⟩
end
theorem near_of40 {rs : List Trip} (h : ∀ r ∈ rs, r.2.2 < 10 ^ 40) : Near rs := fun r hr => Int.lt_trans (h r hr) (by decide +kernel)
theorem nearB_of {rs : List Trip} (h : Near rs) : NearB rs := fun r hr => Int.lt_trans (h r hr) (by decide +kernel)
section
variable {K : PySem.W.Frag} {C : Addr} {XC : Str → Addr} {args : List PV} {P : PV → Prop} {PR : PV → Ow → Prop} {o : Ow} {Zw : WC}
theorem rd_law_shows (h : sp_law_shows K C args P) : ts_law_shows K C { nx := fun _ => P .non, rt := fun x _ => P x } (startP 2 args) := by
 obtain ⟨n, rs, rfl, h1, h2, hw, hn, hp⟩ := h
 have e : startP 2 [lineP C n rs] = [.va (lineP C n rs), .no] := rfl
 rw [e]
 have hl := hw.len
 have ql := queue_len rs
 have hnB := nearB_of hn
 have sz : 1000 < sizeLine := by decide
 refine w_seq (w_set (w_lst (w_cons (w_prop' (w_var rfl ⟨⟨_, rfl⟩, n, rs, rfl, ?_⟩)))))
 refine w_cons (w_prop' (w_var rfl ⟨⟨_, rfl⟩, n, rs, rfl, ?_⟩))
 refine w_cons (w_prop' (w_var rfl ⟨⟨_, rfl⟩, n, rs, rfl, hl, ?_⟩))
 refine w_cons (w_prop' (w_var rfl ⟨⟨_, rfl⟩, n, rs, rfl, hl, ?_⟩))
 refine w_cons (w_lenO (w_cons (w_var rfl (w_nil ⟨_, rfl, n, rs, rfl, _, rfl, ⟨by omega, by omega⟩, ?_⟩))))
 refine w_cons (w_boolO (w_cons (w_var rfl (w_nil ⟨_, rfl, n, rs, rfl, _, rfl, ⟨by omega, by omega⟩, ?_⟩))))
 refine w_cons (w_strO (w_cons (w_var rfl (w_nil ⟨_, rfl, n, rs, rfl, h1, h2, hw, hnB, ⟨_, rfl⟩, ?_⟩))))
 refine w_cons (w_strO (w_cons (w_var rfl (w_nil ⟨_, rfl, n, rs, rfl, h1, h2, hw, hnB, ⟨_, rfl⟩, ?_⟩))))
 refine w_nil ⟨by show 8 ≤ sizeLine; omega, ?_⟩
 simp only [List.set_cons_zero, List.set_cons_succ]
 refine w_ret (w_cb (w_cons (w_op (w_var (x := .lst (showsV n rs)) rfl (w_lst (w_cons (w_listW (w_var (x := lineP C n rs) rfl ⟨_, (queueT rs).map rowP, rfl, rfl, by rw [← queue_eq]; rfl, by rw [List.length_map]; omega, ?_⟩))))))))
 refine w_cons (w_meth (w_var (x := lineP C n rs) rfl ⟨⟨_, rfl, rfl⟩, w_cons (w_con (w_nil ⟨n, rs, 0, rfl, by decide, hl, ?_⟩))⟩))
 refine w_cons (w_meth (w_var (x := lineP C n rs) rfl ⟨⟨_, rfl, rfl⟩, w_cons (w_con (w_nil ⟨n, rs, 7, rfl, by decide, hl, ?_⟩))⟩))
 refine w_nil ⟨by show 3 ≤ sizeLine; omega, q_addLL (by show 8 + 3 ≤ sizeLine; omega) ?_⟩
 exact w_nil (q_reprShows (n := n) (by omega) h2 (rw_short hw hn) (rw_show hw hn) hl hp)
theorem bad_trip {row : Str} {x : PV} (hx : x ∈ ((wordsW row).drop 1).map tripW) (h : isTripB x = false) : BadL row := by
 refine .inr ?_
 have le : vNT (((wordsW row).drop 1).map tripW) ≤ ((wordsW row).drop 1).length := by
  have := valid_le (((wordsW row).drop 1).map tripW) 0 ("" : Str)
  rw [List.length_map] at this
  unfold vNT
  omega
 refine Nat.lt_of_le_of_ne le fun e => ?_
 obtain ⟨rs, er, hw⟩ := valid_rw (xs := ((wordsW row).drop 1).map tripW) (by rw [e, List.length_map])
 rw [er] at hx
 obtain ⟨r, hr, rfl⟩ := List.mem_map.mp hx
 obtain ⟨g1, g2, g3⟩ := hw.each r hr
 have e2 : isTripB (rowP r) = true := by rw [row_isTrip, g1, decide_eq_true g2, decide_eq_true g3]; rfl
 rw [e2] at h
 cases h
theorem bad_first {row : Str} (h : numW ((wordsW row).getD 0 ("" : Str)) = none) : BadL row := .inl (by rw [h]; rfl)
theorem trip_bad_end {w : Str} (h : numW (partE w) = none) : isTripB (tripW w) = false := by
 unfold tripW isTripB
 rw [h]
 dsimp only [optI]
 cases hs : numW (partS w) with
 | none => simp; intros; rfl
 | some a => simp; intros; rfl
theorem joinL_snoc {S : List Nat} : ∀ {ps : List (List Nat)} {p : List Nat}, ps ≠ [] → TL.joinL S (ps ++ [p]) = TL.joinL S ps ++ (S ++ p)
 | [], p, h => absurd rfl h
 | [q], p, _ => rfl
 | q :: r :: ps, p, _ => by
  rw [List.cons_append, joinL_cons (by simp), joinL_snoc (ps := r :: ps) (by simp), joinL_cons (ps := r :: ps) (by simp)]
  simp
theorem joinL_last {S t : List Nat} : ∀ {ps : List (List Nat)} {p : List Nat}, TL.joinL S (ps ++ [p ++ t]) = TL.joinL S (ps ++ [p]) ++ t
 | [], p => rfl
 | q :: ps, p => by
  rw [List.cons_append, List.cons_append, joinL_cons (by simp), joinL_cons (by simp), joinL_last (ps := ps)]
  simp
theorem joinL_first {S a p : List Nat} : ∀ {ps : List (List Nat)}, TL.joinL S ((a ++ p) :: ps) = a ++ TL.joinL S (p :: ps)
 | [] => rfl
 | q :: ps => by
  rw [joinL_cons (p := a ++ p) (ps := q :: ps) (by simp), joinL_cons (p := p) (ps := q :: ps) (by simp), List.append_assoc]
theorem words_by {row : Str} {ps : List Str} (h0 : ps ≠ []) (hf : ∀ p ∈ ps, 32 ∉ TL.tl p) (e : TL.tl row = TL.joinL [32] (ps.map TL.tl)) : wordsW row = ps := by
 have er : row = Txt.join (" " : Str) ps := TL.ext_tl (by rw [e, TL.join_eq, TL.tl_join, show TL.tl (" " : Str) = [32] from ey_space])
 rw [er]
 exact TL.split_join ey_space (by decide +kernel) h0 hf
theorem tl_text {n : Int} {rs : List Trip} : TL.tl (textS n rs) = TL.joinL [32] ((((toString n : String) : Str) :: rs.map rowS).map TL.tl) := by
 unfold textS
 rw [TL.join_eq, TL.tl_join, show TL.tl (((" " : String) : Str)) = [32] from ey_space]
theorem text_free {n : Int} {rs : List Trip} (n1 : 1 ≤ n) (hw : Rw rs) : ∀ p ∈ ((toString n : String) : Str) :: rs.map rowS, 32 ∉ TL.tl p := fun p hp => by
 rcases List.mem_cons.mp hp with rfl | hp
 ·obtain ⟨m, e⟩ := tl_int (i := n) (by omega)
  rw [e]
  exact TL.numL_free (by decide)
 ·obtain ⟨r, hr, rfl⟩ := List.mem_map.mp hp
  obtain ⟨h1, h2, h3⟩ := hw.each r hr
  intro z
  have := row_chars h1 h2 (by omega) 32 z
  omega
theorem bad_sp_end {n : Int} {rs : List Trip} (n1 : 1 ≤ n) (hw : Rw rs) : BadL (textS n rs ++ (" " : Str)) := by
 have e : wordsW (textS n rs ++ (" " : Str)) = (((toString n : String) : Str) :: rs.map rowS) ++ [("" : Str)] := by
  refine words_by (by simp) (fun p hp => ?_) ?_
  ·rcases List.mem_append.mp hp with hp | hp
   ·exact text_free n1 hw p hp
   ·rw [List.mem_singleton.mp hp]; exact List.not_mem_nil
  ·rw [TL.tl_append, tl_text, List.map_append, List.map_cons (l := []), List.map_nil, joinL_snoc (by simp), show TL.tl (" " : Str) = [32] from ey_space]
   rfl
 refine bad_trip (x := tripW ("" : Str)) ?_ (trip_bad_end (by decide +kernel))
 rw [e, List.cons_append, List.drop_succ_cons, List.drop_zero]
 exact List.mem_map.mpr ⟨_, List.mem_append_right _ List.mem_cons_self, rfl⟩
theorem bad_sp_front {n : Int} {rs : List Trip} (n1 : 1 ≤ n) (hw : Rw rs) : BadL ((" " : Str) ++ textS n rs) := by
 have e : wordsW ((" " : Str) ++ textS n rs) = ("" : Str) :: (((toString n : String) : Str) :: rs.map rowS) := by
  refine words_by (by simp) (fun p hp => ?_) ?_
  ·rcases List.mem_cons.mp hp with rfl | hp
   ·exact List.not_mem_nil
   ·exact text_free n1 hw p hp
  ·rw [TL.tl_append, tl_text, show TL.tl (" " : Str) = [32] from ey_space]
   rfl
 refine bad_first ?_
 rw [e]
 exact num_empty
theorem bad_zero {n : Int} {rs : List Trip} (n1 : 1 ≤ n) (hw : Rw rs) : BadL (("0" : Str) ++ textS n rs) := by
 obtain ⟨m, em⟩ := tl_int (i := n) (by omega)
 have e : wordsW (("0" : Str) ++ textS n rs) = (("0" : Str) ++ ((toString n : String) : Str)) :: rs.map rowS := by
  refine words_by (by simp) (fun p hp => ?_) ?_
  ·rcases List.mem_cons.mp hp with rfl | hp
   ·rw [TL.tl_append, List.mem_append, em]
    rintro (z | z)
    ·revert z; decide +kernel
    ·exact TL.numL_free (by decide) z
   ·exact text_free n1 hw p (List.mem_cons_of_mem _ hp)
  ·rw [TL.tl_append, tl_text, List.map_cons, List.map_cons, TL.tl_append, joinL_first]
 refine bad_first ?_
 rw [e]
 show numW (("0" : Str) ++ ((toString n : String) : Str)) = none
 have l1 : 0 < (TL.numL m).length := List.length_pos_iff.mpr (TL.numL_ne m)
 have e0 : (("0" : Str) ++ ((toString n : String) : Str)).cps.toList = 48 :: TL.numL m := by
  show TL.tl (("0" : Str) ++ ((toString n : String) : Str)) = _
  rw [TL.tl_append, em]; rfl
 unfold numW
 split
 ·rfl
 ·rw [if_pos ⟨by rw [e0]; rfl, by rw [TL.len_tl]; show 1 < (("0" : Str) ++ ((toString n : String) : Str)).cps.toList.length; rw [e0, List.length_cons]; omega⟩]
end
theorem num_none {w : Str} {c : Nat} (hc : c ∈ TL.tl w) (h : c < 48 ∨ 57 < c) : numW w = none := by
 unfold numW
 refine if_pos (.inr ?_)
 unfold digB
 refine List.all_eq_false.mpr ⟨c, hc, fun z => ?_⟩
 have e : digS.cps.toList = (List.range 10).map (· + 48) := by decide +kernel
 have z := of_decide_eq_true z
 rw [e] at z
 obtain ⟨k, hk, rfl⟩ := List.mem_map.mp z
 have := List.mem_range.mp hk
 omega
theorem part_end {r : Trip} {t : Str} (h1 : isNm (.str r.1) = true) (h2 : 0 ≤ r.2.1) : partE (rowS r ++ t) = ((toString r.2.2 : String) : Str) ++ t := by
 obtain ⟨a, ea⟩ := tl_int h2
 have e1 : rowS r ++ t = r.1 ++ (":" : Str) ++ (((toString r.2.1 : String) : Str) ++ ("-" : Str) ++ (((toString r.2.2 : String) : Str) ++ t)) := by
  rw [← rowS_eq]; simp only [app_assoc]
 have p1 : Txt.partition (rowS r ++ t) (":" : Str) = (r.1, (":" : Str), ((toString r.2.1 : String) : Str) ++ ("-" : Str) ++ (((toString r.2.2 : String) : Str) ++ t)) := by
  rw [e1]
  exact TL.partition_app ey_colon fun z => by have := nm_chars h1 58 z; omega
 have p2 : Txt.partition (((toString r.2.1 : String) : Str) ++ ("-" : Str) ++ (((toString r.2.2 : String) : Str) ++ t)) ("-" : Str) = (((toString r.2.1 : String) : Str), ("-" : Str), ((toString r.2.2 : String) : Str) ++ t) :=
  TL.partition_app ey_dash (by rw [ea]; exact TL.numL_free (by decide))
 unfold partE
 rw [p1]
 dsimp only
 rw [p2]
theorem bad_tail {n : Int} {rs : List Trip} {t : Str} {c : Nat} (n1 : 1 ≤ n) (hw : Rw rs) (hf : 32 ∉ TL.tl t) (hc : c ∈ TL.tl t) (h : c < 48 ∨ 57 < c) : BadL (textS n rs ++ t) := by
 rcases List.eq_nil_or_concat rs with rfl | ⟨us, r, rfl⟩
 ·have e : wordsW (textS n [] ++ t) = [((toString n : String) : Str) ++ t] := by
   refine words_by (by simp) (fun p hp => ?_) ?_
   ·rw [List.mem_singleton.mp hp, TL.tl_append, List.mem_append]
    rintro (z | z)
    ·exact text_free (rs := []) n1 hw _ List.mem_cons_self z
    ·exact hf z
   ·rw [TL.tl_append, tl_text]
    show _ = TL.tl _
    rw [TL.tl_append]; rfl
  refine bad_first ?_
  rw [e]
  exact num_none (c := c) (by show c ∈ TL.tl (((toString n : String) : Str) ++ t); rw [TL.tl_append]; exact List.mem_append_right _ hc) h
 ·rw [List.concat_eq_append] at hw ⊢
  obtain ⟨g1, g2, g3⟩ := hw.each r (List.mem_append_right _ List.mem_cons_self)
  have e : wordsW (textS n (us ++ [r]) ++ t) = (((toString n : String) : Str) :: us.map rowS) ++ [rowS r ++ t] := by
   refine words_by (by simp) (fun p hp => ?_) ?_
   ·rcases List.mem_append.mp hp with hp | hp
    ·refine text_free n1 hw p ?_
     rcases List.mem_cons.mp hp with rfl | hp
     ·exact List.mem_cons_self
     ·exact List.mem_cons_of_mem _ (by rw [List.map_append]; exact List.mem_append_left _ hp)
    ·rw [List.mem_singleton.mp hp, TL.tl_append, List.mem_append]
     rintro (z | z)
     ·exact text_free n1 hw (rowS r) (List.mem_cons_of_mem _ (by rw [List.map_append]; exact List.mem_append_right _ List.mem_cons_self)) z
     ·exact hf z
   ·rw [TL.tl_append, tl_text, List.map_append (l₁ := us)]
    rw [show ((((toString n : String) : Str) :: List.map rowS us) ++ [rowS r ++ t]).map TL.tl = ((((toString n : String) : Str) :: List.map rowS us).map TL.tl) ++ [TL.tl (rowS r) ++ TL.tl t] from by rw [List.map_append, List.map_cons (l := []), List.map_nil, TL.tl_append], joinL_last]
    rw [show ((((toString n : String) : Str) :: List.map rowS us).map TL.tl) ++ [TL.tl (rowS r)] = (((toString n : String) : Str) :: (List.map rowS us ++ [rowS r])).map TL.tl from by rw [← List.cons_append, List.map_append]; rfl]
    rfl
  refine bad_trip (x := tripW (rowS r ++ t)) ?_ (trip_bad_end ?_)
  ·rw [e, List.cons_append, List.drop_succ_cons, List.drop_zero]
   exact List.mem_map.mpr ⟨_, List.mem_append_right _ List.mem_cons_self, rfl⟩
  ·rw [part_end g1 g2]
   exact num_none (c := c) (by rw [TL.tl_append]; exact List.mem_append_right _ hc) h
theorem strOk_of {row : Str} (h : ∀ c ∈ TL.tl row, c < 1000) : PyData.strOk row = true := by
 unfold PyData.strOk
 rw [Array.all_eq_true']
 intro c hc
 have := h c (Array.mem_def.mp hc)
 exact decide_eq_true (by omega)
theorem tx_ref {K : PySem.W.Frag} {C : Addr} {row : Str} (tx : TxOk row) (hb : BadL row) : RefX K C (.str row) :=
 .inl ⟨row, rfl, strOk_of fun c hc => by have := (tx.a c hc).2; omega, by have := tx.l; omega, fun w hw => by have := tx.w w hw; omega, hb⟩
theorem nms_ok {ws : List Str} (h : Nms ws) : ∀ w ∈ ws, PyData.strOk w = true := fun w hw => strOk_of fun c hc => by have := nm_chars (h.1 w hw) c hc; omega
theorem toDs_strs : ∀ ws : List Str, toDs (ws.map .str) = some (ws.map PyData.str)
 | [] => rfl
 | w :: ws => by rw [List.map_cons, toDs, toDs_strs ws]; rfl
theorem lay_strs : ∀ {ws : List Str}, (∀ w ∈ ws, PyData.strOk w = true) → PyData.canLayAll0 (ws.map PyData.str) = true ∧ PyData.depthAll (ws.map PyData.str) ≤ 1
 | [], _ => by simp [PyData.canLayAll0, PyData.depthAll]
 | w :: ws, h => by
  obtain ⟨h1, h2⟩ := lay_strs (ws := ws) fun x hx => h x (List.mem_cons_of_mem _ hx)
  have h3 := h w List.mem_cons_self
  rw [List.map_cons]
  refine ⟨by simp [PyData.canLayAll0, PyData.canLay0, h1, h3], ?_⟩
  rw [PyData.depthAll, PyData.depth]
  omega
theorem shaped_strs {ws : List Str} (h : ∀ w ∈ ws, PyData.strOk w = true) : SeqAt.shaped (.list (ws.map PyData.str)) = true ∧ SeqAt.shaped (.tuple (ws.map PyData.str)) = true := by
 obtain ⟨h1, h2⟩ := lay_strs h
 unfold SeqAt.shaped
 simp only [PyData.canLay0, PyData.depth, h1, Bool.true_and]
 exact ⟨decide_eq_true (by omega), decide_eq_true (by omega)⟩
section
variable {K : PySem.W.Frag} {C : Addr} {XC : Str → Addr} {args : List PV} {P : PV → Prop} {PR : PV → Ow → Prop} {o : Ow} {Zw : WC}
theorem ref_data {x : PV} {d : PyData} (h : (tyN x).isSome = true) (hs : isSt x = false) (td : toD x = some d) (sd : SeqAt.shaped d = true) : RefX K C x := .inr ⟨.inl h, hs, .inr (.inr ⟨d, td, sd⟩)⟩
theorem things_ok {n : Int} {rs : List Trip} {ws : List Str} (hC : ClsT K C) (hw : Rw rs) (wn : Nms ws) (hr : PyData.strOk (textS n rs) = true) :
  ∀ x ∈ [PV.non, .int 0, .int 5, .bl true, .tup [], .lst [], .dic [], rowsP rs, lineP C n rs, .tup [.str (textS n rs)], .lst [.str (textS n rs)], .tup [.int n, rowsP rs], .int (10 ^ 30), .lst (ws.map .str)], RefX K C x := fun x hx => by
 have s1 := shaped_strs (ws := [textS n rs]) fun w hw => by rw [List.mem_singleton.mp hw]; exact hr
 have s2 := shaped_strs (nms_ok wn)
 have s3 := shaped_rows (rw_good hw)
 have d2 := depth_rows rs
 have s4 : SeqAt.shaped (.tuple [.int n, .tuple (rs.map rowE)]) = true := by
  have h1 := s3
  unfold SeqAt.shaped at h1 ⊢
  rw [Bool.and_eq_true] at h1
  rw [PyData.canLay0, PyData.canLayAll0, PyData.canLayAll0, PyData.canLayAll0, h1.1]
  refine decide_eq_true ?_
  simp only [PyData.depth, PyData.depthAll]
  omega
 simp only [List.mem_cons, List.not_mem_nil, or_false] at hx
 rcases hx with rfl | rfl | rfl | rfl | rfl | rfl | rfl | rfl | rfl | rfl | rfl | rfl | rfl | rfl
 ·exact ref_data rfl rfl rfl rfl
 ·exact ref_data rfl rfl rfl rfl
 ·exact ref_data rfl rfl rfl rfl
 ·exact ref_data rfl rfl rfl rfl
 ·exact ref_data (d := .tuple []) rfl rfl rfl rfl
 ·exact ref_data (d := .list []) rfl rfl rfl rfl
 ·exact .inr ⟨.inl rfl, rfl, .inr (.inl rfl)⟩
 ·exact ref_data rfl rfl (toD_rows rs) s3
 ·exact .inr ⟨.inr ⟨C, _, rfl, hC⟩, rfl, .inl ⟨n, rs, rfl, rw_good hw⟩⟩
 ·exact ref_data (d := .tuple [.str (textS n rs)]) rfl rfl rfl s1.2
 ·exact ref_data (d := .list [.str (textS n rs)]) rfl rfl rfl s1.1
 ·exact ref_data (d := .tuple [.int n, .tuple (rs.map rowE)]) rfl rfl (by rw [toD, toDs, toDs, toDs, toD_rows]; rfl) s4
 ·exact ref_data (d := .int (10 ^ 30)) rfl rfl rfl rfl
 ·exact ref_data (d := .list (ws.map PyData.str)) rfl rfl (by rw [toD, toDs_strs]; rfl) s2.1
theorem texts_ok {n : Int} {rs : List Trip} (n1 : 1 ≤ n) (n2 : n ≤ 20) (hw : Rw rs) (hn : ∀ r ∈ rs, r.2.2 < 10 ^ 40) :
  ∀ x ∈ [PV.str (textS n rs ++ (" " : Str)), .str ((" " : Str) ++ textS n rs), .str (("0" : Str) ++ textS n rs), .str (textS n rs ++ (":" : Str)), .str (textS n rs ++ ("-1" : Str))], RefX K C x := fun x hx => by
 have hb := base_text n1 n2 hw hn
 have hl := hb.l
 rw [TL.len_tl] at hl
 simp only [List.mem_cons, List.not_mem_nil, or_false] at hx
 rcases hx with rfl | rfl | rfl | rfl | rfl
 ·exact tx_ref (b_ins (p := (TL.tl (textS n rs)).length) (c := 32) hb (by decide) (by rw [TL.tl_append, List.take_length, List.drop_length, show TL.tl (" " : Str) = [32] from ey_space]; rfl)) (bad_sp_end n1 hw)
 ·exact tx_ref (b_ins (p := 0) (c := 32) hb (by decide) (by rw [TL.tl_append, show TL.tl (" " : Str) = [32] from ey_space]; rfl)) (bad_sp_front n1 hw)
 ·exact tx_ref (b_zero hb (by rw [TL.tl_append]; rfl)) (bad_zero n1 hw)
 ·exact tx_ref (b_ins (p := (TL.tl (textS n rs)).length) (c := 58) hb (by decide) (by rw [TL.tl_append, List.take_length, List.drop_length, show TL.tl (":" : Str) = [58] from ey_colon]; rfl)) (bad_tail (c := 58) n1 hw (by decide +kernel) (by decide +kernel) (.inr (by decide)))
 ·refine tx_ref (okT (l := TL.tl (textS n rs) ++ [45, 49]) (m := 371) (by rw [TL.tl_append]; rfl) ?_ (by decide) ?_ (chars_app hb.a fun c hc => ?_)) (bad_tail (c := 45) n1 hw (by decide +kernel) (by decide +kernel) (.inl (by decide)))
  ·rw [List.length_append]; show _ + 2 ≤ _; omega
  ·have h1 := runs_ins (m := 92) (a := TL.tl (textS n rs)) (b := []) (c := 49) (by rw [List.append_nil]; exact hb.r)
   exact runs_ins (m := 185) (a := TL.tl (textS n rs)) (b := [49]) (c := 45) h1
  ·simp only [List.mem_cons, List.not_mem_nil, or_false] at hc
   rcases hc with rfl | rfl <;> decide
theorem w_newKX4 {sr : SpRX} {m : Nat} {perm : List PV → List PV} {tk : TAp} {η : EP'} {Q : PV → EP' → Prop} (h : tk η fun zs η1 => zs.length = m ∧ sr (.o C []) (perm zs) (fun r o' => r = .non ∧ ∃ fs, o' = .o C fs ∧ Q (.ins C fs) η1) fun _ _ => False) : tNewKX C sr m perm tk η Q := h
theorem w_setF4 {i : Nat} {tf : TFp} {D : EndsP} {η : EP'} (h0 : (0 : Nat) ≠ i) (h : tf η fun xs η1 => i < η1.length ∧ D.nx (η1.set i (.ow (.l xs)))) : tSetFP i tf D η := ⟨h0, h⟩
theorem w_dic4 {η : EP'} {Q : PV → EP' → Prop} (h : Q (.dic []) η) : tDic0P η Q := h
theorem rd_law_right4 (h : sp_law_right4 K C XC o args PR) : ts_law_right4 K C XC { nx := fun η' => ∃ o', η'[0]? = some (Sl.ow o') ∧ PR .non o', rt := fun x η' => ∃ o', η'[0]? = some (Sl.ow o') ∧ PR x o' } (startR 10 o args) := by
 obtain ⟨po, rfl, hC, tf, hp⟩ := h
 have e : startR 10 o [] = [.ow o, .no, .no, .no, .no, .no, .no, .no, .no, .no] := rfl
 rw [e]
 have sz : 1000000 < sizeLine := by decide
 have z14 : 14 ≤ sizeLine := by omega
 have z5 : 5 ≤ sizeLine := by omega
 have z4 : 4 ≤ sizeLine := by omega
 refine w_seq (w_par (w_arV (w_op (w_con (q_draw rfl rfl po (by decide) (by decide) fun o2 wd p2 w0 w1 => q_add ?_)))))
 refine w_arV (w_callR rfl (w_cons (q_draw rfl rfl p2 (by decide) (by decide) fun o3 m p3 m0 m1 => w_nil (q_callM rfl ⟨m, p3, rfl, m0, by omega, fun o4 ws p4 wl wn => ?_⟩))))
 refine w_arN ⟨rfl, trivial, ?_⟩
 simp only [storesP, List.set_cons_zero, List.set_cons_succ]
 have n1 : 1 ≤ 1 + wd := by omega
 have n2 : 1 + wd ≤ 20 := by omega
 generalize 1 + wd = n at n1 n2 ⊢
 refine w_seq (w_set (w_callR rfl (w_cons (w_var (x := .lst (ws.map .str)) rfl (w_cons (w_con (w_nil (q_callM rfl ⟨ws, 30, p4, rfl, wn, by omega, by decide, by decide, fun o5 rs p5 hw hl hb => ?_⟩))))))))
 have hn : ∀ r ∈ rs, r.2.2 < 10 ^ 40 := fun r hr => (hb r hr).2
 have hnB := near_B hn
 have bt := base_text n1 n2 hw hn
 have btl := bt.l
 have so : PyData.strOk (textS n rs) = true := strOk_of fun c hc => by have := (bt.a c hc).2; omega
 have tg := things_ok (n := n) (C := C) (K := K) hC hw wn so
 have xg := texts_ok (C := C) (K := K) n1 n2 hw hn
 have rd : ∀ {P : PV → Prop} {Zw : WC}, P (lineP C n rs) → sp_Line_readE K C XC [.raw (.ref C), .str (textS n rs)] P Zw := fun h => .inl (read_ok tf.rd n1 n2 hw hn h)
 simp only [List.set_cons_zero, List.set_cons_succ]
 refine w_seq (w_set (w_noNew (w_cons (w_var (x := .int n) rfl (w_cons (w_var (x := rowsP rs) rfl (w_nil (made_ok n1 n2 hw ⟨rfl, _, rfl, ?_⟩))))))))
 simp only [List.set_cons_zero, List.set_cons_succ]
 refine w_seq (w_set (w_strO (w_cons (w_var (x := lineP C n rs) rfl (w_nil ⟨_, rfl, n, rs, rfl, n1, n2, hw, hnB, ⟨_, rfl⟩, ?_⟩)))))
 simp only [List.set_cons_zero, List.set_cons_succ]
 change tSeqP _ _ _ [.ow o5, .va (.int n), .va (.lst (ws.map .str)), .va (rowsP rs), .va (lineP C n rs), .va (.str (textS n rs)), .no, .no, .no, .no]
 refine w_seq (w_set (w_lst ?_))
 refine w_cons (w_con (w_cons (w_con (w_cons (w_con (w_cons (w_con (w_cons (w_tup (w_nil ⟨Nat.zero_le _, ?_⟩))))))))))
 refine w_cons (w_lst (w_nil ⟨Nat.zero_le _, w_cons (w_dic4 ?_)⟩))
 refine w_cons (w_var (x := rowsP rs) rfl (w_cons (w_var (x := lineP C n rs) rfl ?_)))
 refine w_cons (w_tup (w_cons (w_var (x := .str (textS n rs)) rfl (w_nil ⟨sz1, ?_⟩))))
 refine w_cons (w_lst (w_cons (w_var (x := .str (textS n rs)) rfl (w_nil ⟨sz1, ?_⟩))))
 refine w_cons (w_tup (w_cons (w_var (x := .int n) rfl (w_cons (w_var (x := rowsP rs) rfl (w_nil ⟨sz2, ?_⟩))))))
 refine w_cons (w_op (w_con (w_con (q_pow ⟨by decide, by decide, by decide⟩ ?_))))
 refine w_cons (w_var (x := .lst (ws.map .str)) rfl (w_nil ⟨z14, ?_⟩))
 simp only [List.set_cons_zero, List.set_cons_succ]
 generalize hL : ([PV.non, .int 0, .int 5, .bl true, .tup [], .lst [], .dic [], rowsP rs, lineP C n rs, .tup [.str (textS n rs)], .lst [.str (textS n rs)], .tup [.int n, rowsP rs], .int (10 ^ 30), .lst (ws.map .str)] : List PV) = L at tg
 have ll : L.length = 14 := by rw [← hL]; rfl
 change tSeqP _ _ _ [.ow o5, .va (.int n), .va (.lst (ws.map .str)), .va (rowsP rs), .va (lineP C n rs), .va (.str (textS n rs)), .va (.lst [PV.non, .int 0, .int 5, .bl true, .tup [], .lst [], .dic [], rowsP rs, lineP C n rs, .tup [.str (textS n rs)], .lst [.str (textS n rs)], .tup [.int n, rowsP rs], .int (10 ^ 30), .lst (ws.map .str)]), .no, .no, .no]
 rw [hL]
 refine w_seq (w_if (w_not (w_bl (w_cb (w_cons (w_val (w_lc (w_lstP (w_op (w_var (x := .lst L) rfl (w_lst ?_)))))))))))
 refine w_cons (w_op (w_var (x := .str (textS n rs)) rfl (w_con (q_addS (by show _ + 1 ≤ _; omega) ?_))))
 refine w_cons (w_op (w_con (w_var (x := .str (textS n rs)) rfl (q_addS (by show 1 + _ ≤ _; omega) ?_))))
 refine w_cons (w_op (w_con (w_var (x := .str (textS n rs)) rfl (q_addS (by show 1 + _ ≤ _; omega) ?_))))
 refine w_cons (w_op (w_var (x := .str (textS n rs)) rfl (w_con (q_addS (by show _ + 1 ≤ _; omega) ?_))))
 refine w_cons (w_op (w_var (x := .str (textS n rs)) rfl (w_con (q_addS (by show _ + 2 ≤ _; omega) ?_))))
 refine w_nil ⟨z5, q_addLL (by rw [ll]; show 14 + 5 ≤ sizeLine; omega) ?_⟩
 generalize hT : ([PV.str (textS n rs ++ (" " : Str)), .str ((" " : Str) ++ textS n rs), .str (("0" : Str) ++ textS n rs), .str (textS n rs ++ (":" : Str)), .str (textS n rs ++ ("-1" : Str))] : List PV) = T at xg
 have lt : T.length = 5 := by rw [← hT]; rfl
 show ∃ Inv : Nat → List PV → EP' → Prop, _
 refine ⟨fun i acc η => acc = List.replicate i (.bl true) ∧ η = [.ow o5, .va (.int n), .va (.lst (ws.map .str)), .va (rowsP rs), .va (lineP C n rs), .va (.str (textS n rs)), .va (.lst L), .no, .no, .no], ⟨rfl, rfl⟩, ?_, ?_⟩
 ·rintro i x acc η hi ⟨rfl, rfl⟩
  have hi : (L ++ T)[i]? = some x := hi
  have il := (List.getElem?_eq_some_iff.mp hi).1
  rw [List.length_append, ll, lt] at il
  have hx : RefX K C x := (List.mem_append.mp (List.mem_of_getElem? hi)).elim (tg x) (xg x)
  refine w_gname (w_yes (q_iteT (w_call (w_cons (w_var (x := x) rfl (w_nil ⟨x, rfl, hC, tf, hx, ?_⟩))))))
  exact ⟨by rw [List.length_replicate]; omega, by rw [List.replicate_succ'], rfl⟩
 rintro acc η ⟨rfl, rfl⟩
 refine w_nil (q_all (all_trueX _) ?_)
 rw [show ∀ n : Nat, (List.replicate n true).all id = true from fun n => by simp]
 refine q_iteF (w_next ?_)
 dsimp only
 refine w_seq (w_setF4 (by decide) (w_lstF ?_))
 refine w_cons (w_noCM (w_con ⟨rfl, w_cons (w_var (x := .str (textS n rs)) rfl (w_nil (rd ?_)))⟩))
 refine w_cons (w_noNew (w_cons (w_var (x := .int n) rfl (w_cons (w_prop' (w_var (x := lineP C n rs) rfl ⟨⟨_, rfl⟩, n, rs, rfl, w_nil (made_ok n1 n2 hw ⟨rfl, _, rfl, ?_⟩)⟩))))))
 refine w_cons (w_noIM (w_var (x := lineP C n rs) rfl ⟨⟨_, rfl, rfl⟩, w_cons (w_var (x := .str (textS n rs)) rfl (w_nil (rd ?_)))⟩))
 refine w_cons (w_noCM (w_con ⟨rfl, w_cons (w_strO (w_cons (w_noCM (w_con ⟨rfl, w_cons (w_var (x := .str (textS n rs)) rfl (w_nil (rd (w_nil ⟨_, rfl, n, rs, rfl, n1, n2, hw, hnB, ⟨_, rfl⟩, w_nil (rd ?_)⟩))))⟩))))⟩))
 refine w_nil ⟨z4, by show 7 < 10; decide, ?_⟩
 simp only [List.set_cons_zero, List.set_cons_succ]
 refine w_seq (w_app (xs := [lineP C n rs, lineP C n rs, lineP C n rs, lineP C n rs]) rfl (w_newKX4 ?_))
 refine w_cons (w_prop' (w_noCM (w_con ⟨rfl, w_cons (w_var (x := .str (textS n rs)) rfl (w_nil (rd ⟨⟨_, rfl⟩, n, rs, rfl, ?_⟩)))⟩)))
 refine w_cons (w_prop' (w_noCM (w_con ⟨rfl, w_cons (w_var (x := .str (textS n rs)) rfl (w_nil (rd ⟨⟨_, rfl⟩, n, rs, rfl, ?_⟩)))⟩)))
 refine w_nil ⟨rfl, made_ok n1 n2 hw ⟨rfl, _, rfl, q_appM rfl (by show 4 < sizeLine; omega) ?_⟩⟩
 simp only [List.set_cons_zero, List.set_cons_succ]
 refine w_ret (w_cb (w_cons (w_val (w_lc (w_lstP (w_varO (o := .l [lineP C n rs, lineP C n rs, lineP C n rs, lineP C n rs, lineP C n rs]) rfl ?_))))))
 show ∃ Inv : Nat → List PV → EP' → Prop, _
 refine ⟨fun i acc η => acc = List.replicate i (.bl true) ∧ ∃ s7 : Sl, η = [.ow o5, .va (.int n), .va (.lst (ws.map .str)), .va (rowsP rs), .va (lineP C n rs), .va (.str (textS n rs)), .va (.lst L), s7, .no, .no], ⟨rfl, _, rfl⟩, ?_, ?_⟩
 ·rintro i x acc η hi ⟨rfl, s7, rfl⟩
  have il := (List.getElem?_eq_some_iff.mp hi).1
  have il : i < 5 := il
  obtain rfl : x = lineP C n rs := by
   have : x ∈ [lineP C n rs, lineP C n rs, lineP C n rs, lineP C n rs, lineP C n rs] := List.mem_of_getElem? hi
   simpa using this
  have near := near_of40 hn
  refine w_gname (w_yes (q_iteT (w_andV (w_op (w_call (w_cons (w_var (x := lineP C n rs) rfl (w_nil ⟨n, rs, rfl, n1, n2, hw, near, ?_⟩))))))))
  refine w_call (w_cons (w_var (x := lineP C n rs) rfl (w_nil ⟨n, rs, rfl, n1, n2, hw, near, q_eqS0 ?_⟩)))
  rw [decide_eq_true rfl]
  refine w_eqO (w_var (x := lineP C n rs) rfl (w_var (x := lineP C n rs) rfl ⟨⟨_, rfl⟩, eqTy_line, n, rs, _, rfl, hC, rw_good hw, .inr ⟨n, rs, rfl, rw_good hw, _, rfl, ?_⟩⟩))
  rw [decide_eq_true (⟨rfl, rfl⟩ : n = n ∧ rs = rs)]
  exact ⟨by rw [List.length_replicate]; omega, by rw [List.replicate_succ']; rfl, _, rfl⟩
 rintro acc η ⟨rfl, s7, rfl⟩
 refine w_nil (q_all (all_trueX _) ?_)
 rw [show ∀ n : Nat, (List.replicate n true).all id = true from fun n => by simp]
 exact ⟨o5, rfl, hp o5 p5⟩
theorem rd_law4 (h : sp_law4 K C XC args P) : ts_law4 K C XC { nx := fun _ => P .non, rt := fun x _ => P x } (startP 2 args) := by
 obtain ⟨ns, rfl, hns, hC, tf, hp⟩ := h
 have e : startP 2 [.scr ns] = [.va (.scr ns), .no] := rfl
 rw [e]
 have sz : 1000 < sizeLine := by decide
 refine w_ret (w_cb (w_cons (w_val (w_lc (w_rng1 (w_cb (w_cons (w_con (w_cons (w_cb (w_cons (w_cb (w_cons (w_var (x := .scr ns) rfl (w_nil (q_lenC (w_cons (w_con (w_nil (q_min ?_))))))))))))))))))))
 refine w_nil (q_max ?_)
 obtain ⟨N, hN, N0, N6⟩ : ∃ N : Int, (if (if (4 : Int) < (ns.length : Int) then (4 : Int) else (ns.length : Int)) > 2 then (if (4 : Int) < (ns.length : Int) then (4 : Int) else (ns.length : Int)) else 2) = N ∧ 0 ≤ N ∧ N ≤ 4 := ⟨_, rfl, by split <;> (first | split | skip) <;> omega, by split <;> (first | split | skip) <;> omega⟩
 rw [hN]
 refine ⟨by omega, by omega, fun i acc η => acc = List.replicate i (.bl true) ∧ η = [.va (.scr ns), .no], ⟨rfl, rfl⟩, ?_, ?_⟩
 ·rintro i x acc η hi ⟨rfl, rfl⟩
  obtain ⟨hn, rfl⟩ := rangeP_get hi
  refine w_gname (w_yes (q_iteT ?_))
  refine w_callRF' (w_callF' (w_cons (w_call (w_cons (w_var (x := .scr ns) rfl (w_cons (w_var rfl (w_nil ⟨ns, _, rfl, by omega, by omega, fun c => ?_⟩))))))))
  refine w_nil ⟨c, rfl, fun s d s0 s1 d0 => w_nil ⟨⟨s, d, 0, rfl, s0, s1, d0⟩, rfl, hC, tf, fun o' p' => ?_⟩⟩
  exact ⟨by rw [List.length_replicate]; omega, by rw [List.replicate_succ'], rfl⟩
 ·rintro acc η ⟨rfl, rfl⟩
  rw [rangeP_len]
  refine w_nil (q_all (all_trueX _) ?_)
  rw [show ∀ n : Nat, (List.replicate n true).all id = true from fun n => by simp]
  exact hp
end
end Z
set_option maxHeartbeats 4000000
namespace ZK
open PySem PySem.Spec L2 Z
open PyProof.Rows hiding St
def top (i : Nat) : Stmt := PySem.Challenge.pw_seatchains_k04_texts_that_are_none.main.body.getD i (.Pass ⟨0, 0, 0, 0⟩)
abbrev s_law_cell : Stmt := top 47
abbrev N_law_cell : List Str := [("_law_script" : Str), ("_law_k" : Str), ("_law_state" : Str), ("_law_cell_here" : Str)]
theorem sc_law_cell : FnScope N_law_cell [("_law_script" : Str), ("_law_k" : Str)] (defScope s_law_cell) := ⟨rfl, rfl, rfl, by decide +kernel, rfl, by decide +kernel, by decide +kernel⟩
abbrev s_law_pool : Stmt := top 48
abbrev N_law_pool : List Str := [("_law_cell_here" : Str), ("_law_digits" : Str)]
theorem sc_law_pool : FnScope N_law_pool [("_law_cell_here" : Str)] (defScope s_law_pool) := ⟨rfl, rfl, rfl, by decide +kernel, rfl, by decide +kernel, by decide +kernel⟩
abbrev s_is_integer : Stmt := top 31
abbrev N_is_integer : List Str := [("thing" : Str)]
theorem sc_is_integer : FnScope N_is_integer [("thing" : Str)] (defScope s_is_integer) := ⟨rfl, rfl, rfl, by decide +kernel, rfl, by decide +kernel, by decide +kernel⟩
abbrev s_check_seatsX : Stmt := top 41
abbrev N_check_seatsX : List Str := [("seats" : Str)]
theorem sc_check_seatsX : FnScope N_check_seatsX [("seats" : Str)] (defScope s_check_seatsX) := ⟨rfl, rfl, rfl, by decide +kernel, rfl, by decide +kernel, by decide +kernel⟩
abbrev s_is_later : Stmt := top 33
abbrev N_is_later : List Str := [("thing" : Str), ("start" : Str)]
theorem sc_is_later : FnScope N_is_later [("thing" : Str), ("start" : Str)] (defScope s_is_later) := ⟨rfl, rfl, rfl, by decide +kernel, rfl, by decide +kernel, by decide +kernel⟩
abbrev s_is_station : Stmt := top 32
abbrev N_is_station : List Str := [("thing" : Str)]
theorem sc_is_station : FnScope N_is_station [("thing" : Str)] (defScope s_is_station) := ⟨rfl, rfl, rfl, by decide +kernel, rfl, by decide +kernel, by decide +kernel⟩
abbrev s_is_trip_name : Stmt := top 34
abbrev N_is_trip_name : List Str := [("thing" : Str), ("letter" : Str)]
theorem sc_is_trip_name : FnScope N_is_trip_name [("thing" : Str)] (defScope s_is_trip_name) := ⟨rfl, rfl, rfl, by decide +kernel, rfl, by decide +kernel, by decide +kernel⟩
abbrev s_is_tripE : Stmt := top 35
abbrev N_is_tripE : List Str := [("thing" : Str), ("name" : Str), ("start" : Str), ("end" : Str)]
theorem sc_is_tripE : FnScope N_is_tripE [("thing" : Str)] (defScope s_is_tripE) := ⟨rfl, rfl, rfl, by decide +kernel, rfl, by decide +kernel, by decide +kernel⟩
abbrev s_valid_beginningE : Stmt := top 42
abbrev N_valid_beginningE : List Str := [("trips" : Str), ("before" : Str), ("at" : Str), ("thing" : Str)]
theorem sc_valid_beginningE : FnScope N_valid_beginningE [("trips" : Str)] (defScope s_valid_beginningE) := ⟨rfl, rfl, rfl, by decide +kernel, rfl, by decide +kernel, by decide +kernel⟩
abbrev s_Line_capacity : Stmt := inClass (top 40) 10
abbrev N_Line_capacity : List Str := [("self" : Str)]
theorem sc_Line_capacity : FnScope N_Line_capacity [("self" : Str)] (defScope s_Line_capacity) := ⟨rfl, rfl, rfl, by decide +kernel, rfl, by decide +kernel, by decide +kernel⟩
abbrev s_Line_trips : Stmt := inClass (top 40) 11
abbrev N_Line_trips : List Str := [("self" : Str)]
theorem sc_Line_trips : FnScope N_Line_trips [("self" : Str)] (defScope s_Line_trips) := ⟨rfl, rfl, rfl, by decide +kernel, rfl, by decide +kernel, by decide +kernel⟩
abbrev s_Line_len : Stmt := inClass (top 40) 4
abbrev N_Line_len : List Str := [("self" : Str)]
theorem sc_Line_len : FnScope N_Line_len [("self" : Str)] (defScope s_Line_len) := ⟨rfl, rfl, rfl, by decide +kernel, rfl, by decide +kernel, by decide +kernel⟩
abbrev s_Line_eq : Stmt := inClass (top 40) 3
abbrev N_Line_eq : List Str := [("self" : Str), ("other" : Str)]
theorem sc_Line_eq : FnScope N_Line_eq [("self" : Str), ("other" : Str)] (defScope s_Line_eq) := ⟨rfl, rfl, rfl, by decide +kernel, rfl, by decide +kernel, by decide +kernel⟩
abbrev s_Line_strB : Stmt := inClass (top 40) 5
abbrev N_Line_strB : List Str := [("self" : Str), ("words" : Str), ("name" : Str), ("start" : Str), ("end" : Str)]
theorem sc_Line_strB : FnScope N_Line_strB [("self" : Str)] (defScope s_Line_strB) := ⟨rfl, rfl, rfl, by decide +kernel, rfl, by decide +kernel, by decide +kernel⟩
abbrev s_Line_reprB : Stmt := inClass (top 40) 6
abbrev N_Line_reprB : List Str := [("self" : Str)]
theorem sc_Line_reprB : FnScope N_Line_reprB [("self" : Str)] (defScope s_Line_reprB) := ⟨rfl, rfl, rfl, by decide +kernel, rfl, by decide +kernel, by decide +kernel⟩
abbrev s_Line_initX : Stmt := inClass (top 40) 2
abbrev N_Line_initX : List Str := [("self" : Str), ("seats" : Str), ("trips" : Str), ("valid" : Str)]
theorem sc_Line_initX : FnScope N_Line_initX [("self" : Str), ("seats" : Str), ("trips" : Str)] (defScope s_Line_initX) := ⟨rfl, rfl, rfl, by decide +kernel, rfl, by decide +kernel, by decide +kernel⟩
abbrev s_load_of : Stmt := top 43
abbrev N_load_of : List Str := [("trips" : Str), ("station" : Str), ("name" : Str), ("start" : Str), ("end" : Str)]
theorem sc_load_of : FnScope N_load_of [("trips" : Str), ("station" : Str)] (defScope s_load_of) := ⟨rfl, rfl, rfl, by decide +kernel, rfl, by decide +kernel, by decide +kernel⟩
abbrev s_Line_order : Stmt := inClass (top 40) 12
abbrev N_Line_order : List Str := [("self" : Str), ("row" : Str)]
theorem sc_Line_order : FnScope N_Line_order [("self" : Str)] (defScope s_Line_order) := ⟨rfl, rfl, rfl, by decide +kernel, rfl, by decide +kernel, by decide +kernel⟩
abbrev s_Line_peak : Stmt := inClass (top 40) 13
abbrev N_Line_peak : List Str := [("self" : Str), ("row" : Str)]
theorem sc_Line_peak : FnScope N_Line_peak [("self" : Str)] (defScope s_Line_peak) := ⟨rfl, rfl, rfl, by decide +kernel, rfl, by decide +kernel, by decide +kernel⟩
abbrev s_Line_walk : Stmt := inClass (top 40) 15
abbrev N_Line_walk : List Str := [("self" : Str), ("row" : Str)]
theorem sc_Line_walk : GScope N_Line_walk [("self" : Str)] (defScope s_Line_walk) := ⟨rfl, rfl, rfl, by decide +kernel, rfl, by decide +kernel, by decide +kernel⟩
abbrev s_Line_load : Stmt := inClass (top 40) 14
abbrev N_Line_load : List Str := [("self" : Str), ("station" : Str)]
theorem sc_Line_load : FnScope N_Line_load [("self" : Str), ("station" : Str)] (defScope s_Line_load) := ⟨rfl, rfl, rfl, by decide +kernel, rfl, by decide +kernel, by decide +kernel⟩
abbrev s_number_written : Stmt := top 36
abbrev N_number_written : List Str := [("word" : Str), ("digit" : Str)]
theorem sc_number_written : FnScope N_number_written [("word" : Str)] (defScope s_number_written) := ⟨rfl, rfl, rfl, by decide +kernel, rfl, by decide +kernel, by decide +kernel⟩
abbrev s_trip_written : Stmt := top 45
abbrev N_trip_written : List Str := [("word" : Str), ("name" : Str), ("colon" : Str), ("stations" : Str), ("start" : Str), ("dash" : Str), ("end" : Str)]
theorem sc_trip_written : FnScope N_trip_written [("word" : Str)] (defScope s_trip_written) := ⟨rfl, rfl, rfl, by decide +kernel, rfl, by decide +kernel, by decide +kernel⟩
abbrev s_Line_readE : Stmt := inClass (top 40) 8
abbrev N_Line_readE : List Str := [("cls" : Str), ("text" : Str), ("words" : Str), ("trips" : Str), ("word" : Str)]
theorem sc_Line_readE : FnScope N_Line_readE [("cls" : Str), ("text" : Str)] (defScope s_Line_readE) := ⟨rfl, rfl, rfl, by decide +kernel, rfl, by decide +kernel, by decide +kernel⟩
abbrev s_law_draw : Stmt := top 49
abbrev N_law_draw : List Str := [("_law_pool_here" : Str), ("_law_many" : Str), ("_law_state" : Str), ("_law_digit" : Str)]
theorem sc_law_draw : FnScope N_law_draw [("_law_pool_here" : Str), ("_law_many" : Str)] (defScope s_law_draw) := ⟨rfl, rfl, rfl, by decide +kernel, rfl, by decide +kernel, by decide +kernel⟩
abbrev s_law_far : Stmt := top 51
abbrev N_law_far : List Str := [("_law_pool_here" : Str), ("_law_high" : Str), ("_law_found" : Str), ("_law_here" : Str), ("_law_way" : Str), ("_law_k" : Str)]
theorem sc_law_far : FnScope N_law_far [("_law_pool_here" : Str), ("_law_high" : Str)] (defScope s_law_far) := ⟨rfl, rfl, rfl, by decide +kernel, rfl, by decide +kernel, by decide +kernel⟩
abbrev s_law_rides : Stmt := top 52
abbrev N_law_rides : List Str := [("_law_pool_here" : Str), ("_law_words_here" : Str), ("_law_high" : Str), ("_law_places" : Str), ("_law_found" : Str), ("_law_last" : Str), ("_law_word" : Str), ("_law_way" : Str), ("_law_begin" : Str)]
theorem sc_law_rides : FnScope N_law_rides [("_law_pool_here" : Str), ("_law_words_here" : Str), ("_law_high" : Str)] (defScope s_law_rides) := ⟨rfl, rfl, rfl, by decide +kernel, rfl, by decide +kernel, by decide +kernel⟩
abbrev s_law_other_fields : Stmt := top 55
abbrev N_law_other_fields : List Str := [("_law_e" : Str)]
theorem sc_law_other_fields : FnScope N_law_other_fields [("_law_e" : Str)] (defScope s_law_other_fields) := ⟨rfl, rfl, rfl, by decide +kernel, rfl, by decide +kernel, by decide +kernel⟩
abbrev s_law_fields : Stmt := top 54
abbrev N_law_fields : List Str := [("_law_e" : Str)]
theorem sc_law_fields : FnScope N_law_fields [("_law_e" : Str)] (defScope s_law_fields) := ⟨rfl, rfl, rfl, by decide +kernel, rfl, by decide +kernel, by decide +kernel⟩
abbrev s_law_kind : Stmt := top 53
abbrev N_law_kind : List Str := [("_law_e" : Str), ("_law_kinds" : Str), ("_law_bases" : Str), ("_law_own" : Str), ("_law_at" : Str), ("_law_words_here" : Str)]
theorem sc_law_kind : FnScope N_law_kind [("_law_e" : Str)] (defScope s_law_kind) := ⟨rfl, rfl, rfl, by decide +kernel, rfl, by decide +kernel, by decide +kernel⟩
abbrev s_law_caught : Stmt := top 56
abbrev N_law_caught : List Str := [("_law_call" : Str), ("_law_e" : Str)]
theorem sc_law_caught : FnScope N_law_caught [("_law_call" : Str)] (defScope s_law_caught) := ⟨rfl, rfl, rfl, by decide +kernel, rfl, by decide +kernel, by decide +kernel⟩
abbrev s_law_refused : Stmt := top 57
abbrev N_law_refused : List Str := [("_law_matter" : Str), ("_law_told" : Str)]
theorem sc_law_refused : FnScope N_law_refused [("_law_matter" : Str)] (defScope s_law_refused) := ⟨rfl, rfl, rfl, by decide +kernel, rfl, by decide +kernel, by decide +kernel⟩
abbrev s_law_shows : Stmt := top 58
abbrev N_law_shows : List Str := [("_law_made" : Str), ("_law_some" : Str)]
theorem sc_law_shows : FnScope N_law_shows [("_law_made" : Str)] (defScope s_law_shows) := ⟨rfl, rfl, rfl, by decide +kernel, rfl, by decide +kernel, by decide +kernel⟩
abbrev s_law_words : Stmt := top 50
abbrev N_law_words : List Str := [("_law_pool_here" : Str), ("_law_many" : Str), ("_law_letters" : Str), ("_law_menu" : Str), ("_law_way" : Str), ("_law_begin" : Str), ("_law_stem" : Str), ("_law_at" : Str), ("_law_k" : Str)]
theorem sc_law_words : FnScope N_law_words [("_law_pool_here" : Str), ("_law_many" : Str)] (defScope s_law_words) := ⟨rfl, rfl, rfl, by decide +kernel, rfl, by decide +kernel, by decide +kernel⟩
abbrev s_law_right4 : Stmt := top 59
abbrev N_law_right4 : List Str := [("_law_pool_here" : Str), ("_law_width" : Str), ("_law_words_here" : Str), ("_law_rides_here" : Str), ("_law_made" : Str), ("_law_row" : Str), ("_law_things" : Str), ("_law_later" : Str), ("_law_matter" : Str), ("_law_each" : Str)]
theorem sc_law_right4 : FnScope N_law_right4 [("_law_pool_here" : Str)] (defScope s_law_right4) := ⟨rfl, rfl, rfl, by decide +kernel, rfl, by decide +kernel, by decide +kernel⟩
abbrev s_law4 : Stmt := top 60
abbrev N_law4 : List Str := [("_law_script" : Str), ("_law_k" : Str)]
theorem sc_law4 : FnScope N_law4 [("_law_script" : Str)] (defScope s_law4) := ⟨rfl, rfl, rfl, by decide +kernel, rfl, by decide +kernel, by decide +kernel⟩
abbrev x_InvalidSeats : Stmt := inClass (top 3) 0
theorem xt_InvalidSeats : XTxt x_InvalidSeats "InvalidSeats.__init__" "value" where
 ex := ⟨_, _, _, _, _, _, _, _, _, _, _, _, _, rfl, rfl, rfl, fun _ _ _ _ => rfl, fun _ _ _ _ => ⟨_, rfl⟩, fun _ _ _ _ => rfl, fun _ _ _ _ => rfl⟩
 n1 := rfl
 n2 := rfl
 n3 := rfl
 n4 := rfl
 n5 := rfl
 n6 := rfl
 n7 := rfl
 n8 := by decide +kernel
 b := fun _ _ _ _ _ _ _ _ _ => rfl
abbrev x_InvalidText : Stmt := inClass (top 12) 0
theorem xt_InvalidText : XTxt x_InvalidText "InvalidText.__init__" "text" where
 ex := ⟨_, _, _, _, _, _, _, _, _, _, _, _, _, rfl, rfl, rfl, fun _ _ _ _ => rfl, fun _ _ _ _ => ⟨_, rfl⟩, fun _ _ _ _ => rfl, fun _ _ _ _ => rfl⟩
 n1 := rfl
 n2 := rfl
 n3 := rfl
 n4 := rfl
 n5 := rfl
 n6 := rfl
 n7 := rfl
 n8 := by decide +kernel
 b := fun _ _ _ _ _ _ _ _ _ => rfl
abbrev x_InvalidTrips : Stmt := inClass (top 4) 0
theorem xt_InvalidTrips : XTxt x_InvalidTrips "InvalidTrips.__init__" "index" where
 ex := ⟨_, _, _, _, _, _, _, _, _, _, _, _, _, rfl, rfl, rfl, fun _ _ _ _ => rfl, fun _ _ _ _ => ⟨_, rfl⟩, fun _ _ _ _ => rfl, fun _ _ _ _ => rfl⟩
 n1 := rfl
 n2 := rfl
 n3 := rfl
 n4 := rfl
 n5 := rfl
 n6 := rfl
 n7 := rfl
 n8 := by decide +kernel
 b := fun _ _ _ _ _ _ _ _ _ => rfl
structure Ad where
 CLine : Addr
 cL : Addr
 tL : Addr
 eL : Addr
 mL : Value
 XC : Str → Addr
 pS : Addr
 qT : Addr
 qC : Addr
 cT : Addr
 tT : Addr
 qc_read : Addr
 q_order : Addr
 q_peak : Addr
 f_law_cell : Addr
 d_law_cell : FuncData
 f_law_pool : Addr
 d_law_pool : FuncData
 f_is_integer : Addr
 d_is_integer : FuncData
 f_check_seatsX : Addr
 d_check_seatsX : FuncData
 f_is_later : Addr
 d_is_later : FuncData
 f_is_station : Addr
 d_is_station : FuncData
 f_is_trip_name : Addr
 d_is_trip_name : FuncData
 f_is_tripE : Addr
 d_is_tripE : FuncData
 f_valid_beginningE : Addr
 d_valid_beginningE : FuncData
 f_Line_capacity : Addr
 d_Line_capacity : FuncData
 f_Line_trips : Addr
 d_Line_trips : FuncData
 f_Line_len : Addr
 d_Line_len : FuncData
 f_Line_eq : Addr
 d_Line_eq : FuncData
 f_Line_strB : Addr
 d_Line_strB : FuncData
 f_Line_reprB : Addr
 d_Line_reprB : FuncData
 f_Line_initX : Addr
 d_Line_initX : FuncData
 f_load_of : Addr
 d_load_of : FuncData
 f_Line_order : Addr
 d_Line_order : FuncData
 f_Line_peak : Addr
 d_Line_peak : FuncData
 f_Line_walk : Addr
 d_Line_walk : FuncData
 f_Line_load : Addr
 d_Line_load : FuncData
 f_number_written : Addr
 d_number_written : FuncData
 f_trip_written : Addr
 d_trip_written : FuncData
 f_Line_readE : Addr
 d_Line_readE : FuncData
 f_law_draw : Addr
 d_law_draw : FuncData
 f_law_far : Addr
 d_law_far : FuncData
 f_law_rides : Addr
 d_law_rides : FuncData
 f_law_other_fields : Addr
 d_law_other_fields : FuncData
 f_law_fields : Addr
 d_law_fields : FuncData
 f_law_kind : Addr
 d_law_kind : FuncData
 f_law_caught : Addr
 d_law_caught : FuncData
 f_law_refused : Addr
 d_law_refused : FuncData
 f_law_shows : Addr
 d_law_shows : FuncData
 f_law_words : Addr
 d_law_words : FuncData
 f_law_right4 : Addr
 d_law_right4 : FuncData
 f_law4 : Addr
 d_law4 : FuncData
structure Tx (P : Program) (w : World) (K : PySem.W.Frag) (mg : Str → Option Value) (a : Ad) : Prop where
 cl : Cls K a.CLine
 clt : ClsT K a.CLine
 g_Line : mg "Line" = some (.ref a.CLine)
 mkL : Mk K a.CLine a.f_Line_initX
 dfl : ∀ {O H}, Reps K O H [.tup []] [.ref a.eL]
 cr : ClX.CRead K a.CLine a.mL
 tne : a.tL ≠ a.tT
 cm_read : ClX.CMet K a.CLine a.mL "read" a.qc_read a.f_Line_readE
 ci_read : ClX.CInst K a.CLine "read" a.qc_read a.f_Line_readE
 p_trips : PropOf K a.CLine "trips" a.qT a.f_Line_trips
 p_capacity : PropOf K a.CLine "capacity" a.qC a.f_Line_capacity
 p_order : PropOf K a.CLine "order" a.q_order a.f_Line_order
 p_peak : PropOf K a.CLine "peak" a.q_peak a.f_Line_peak
 m_walk : Meth K a.CLine "walk" a.f_Line_walk
 m_load : Meth K a.CLine "load" a.f_Line_load
 rp : PySem.W.findIn K (.ref a.CLine) "__repr__" = some (some (.ref a.f_Line_reprB))
 rpf : PySem.W.isFn K (.ref a.f_Line_reprB) = true
 ow : OwnC K a.CLine a.f_Line_eq a.f_Line_len a.f_Line_strB
 g_Busy : mg "Busy" = some (.ref (a.XC "Busy"))
 g_Full : mg "Full" = some (.ref (a.XC "Full"))
 g_InvalidAction : mg "InvalidAction" = some (.ref (a.XC "InvalidAction"))
 g_InvalidCommand : mg "InvalidCommand" = some (.ref (a.XC "InvalidCommand"))
 g_InvalidExchange : mg "InvalidExchange" = some (.ref (a.XC "InvalidExchange"))
 g_InvalidFixed : mg "InvalidFixed" = some (.ref (a.XC "InvalidFixed"))
 g_InvalidName : mg "InvalidName" = some (.ref (a.XC "InvalidName"))
 g_InvalidNumber : mg "InvalidNumber" = some (.ref (a.XC "InvalidNumber"))
 g_InvalidPlan : mg "InvalidPlan" = some (.ref (a.XC "InvalidPlan"))
 g_InvalidSeat : mg "InvalidSeat" = some (.ref (a.XC "InvalidSeat"))
 g_InvalidSeats : mg "InvalidSeats" = some (.ref (a.XC "InvalidSeats"))
 g_InvalidStation : mg "InvalidStation" = some (.ref (a.XC "InvalidStation"))
 g_InvalidText : mg "InvalidText" = some (.ref (a.XC "InvalidText"))
 g_InvalidTrips : mg "InvalidTrips" = some (.ref (a.XC "InvalidTrips"))
 g_NameTaken : mg "NameTaken" = some (.ref (a.XC "NameTaken"))
 g_NotALine : mg "NotALine" = some (.ref (a.XC "NotALine"))
 g_NotFree : mg "NotFree" = some (.ref (a.XC "NotFree"))
 g_NothingToUndo : mg "NothingToUndo" = some (.ref (a.XC "NothingToUndo"))
 g_Overfull : mg "Overfull" = some (.ref (a.XC "Overfull"))
 g_SeatError : mg "SeatError" = some (.ref (a.XC "SeatError"))
 g_SizeError : mg "SizeError" = some (.ref (a.XC "SizeError"))
 g_StateError : mg "StateError" = some (.ref (a.XC "StateError"))
 g_TooManyEntries : mg "TooManyEntries" = some (.ref (a.XC "TooManyEntries"))
 g_TooManyPlans : mg "TooManyPlans" = some (.ref (a.XC "TooManyPlans"))
 g_TooManyTrips : mg "TooManyTrips" = some (.ref (a.XC "TooManyTrips"))
 xa_InvalidSeats : XAll P K mg "InvalidSeats" (a.XC "InvalidSeats") "value"
 xa_InvalidText : XAll P K mg "InvalidText" (a.XC "InvalidText") "text"
 xa_InvalidTrips : XAll P K mg "InvalidTrips" (a.XC "InvalidTrips") "index"
 n_seat_count : NoAttr K a.CLine "seat_count"
 n_rows : NoAttr K a.CLine "rows"
 n_queue : NoAttr K a.CLine "queue"
 F_law_cell : Fun K "_law_cell" "_law_cell" s_law_cell a.f_law_cell a.d_law_cell
 g__law_cell : mg "_law_cell" = some (.ref a.f_law_cell)
 k__law_cell : PySem.W.keepIn K (.ref a.f_law_cell) = true
 F_law_pool : Fun K "_law_pool" "_law_pool" s_law_pool a.f_law_pool a.d_law_pool
 g__law_pool : mg "_law_pool" = some (.ref a.f_law_pool)
 k__law_pool : PySem.W.keepIn K (.ref a.f_law_pool) = true
 F_is_integer : Fun K "is_integer" "is_integer" s_is_integer a.f_is_integer a.d_is_integer
 g_is_integer : mg "is_integer" = some (.ref a.f_is_integer)
 k_is_integer : PySem.W.keepIn K (.ref a.f_is_integer) = true
 F_check_seatsX : Fun K "check_seats" "check_seats" s_check_seatsX a.f_check_seatsX a.d_check_seatsX
 g_check_seats : mg "check_seats" = some (.ref a.f_check_seatsX)
 k_check_seats : PySem.W.keepIn K (.ref a.f_check_seatsX) = true
 F_is_later : Fun K "is_later" "is_later" s_is_later a.f_is_later a.d_is_later
 g_is_later : mg "is_later" = some (.ref a.f_is_later)
 k_is_later : PySem.W.keepIn K (.ref a.f_is_later) = true
 F_is_station : Fun K "is_station" "is_station" s_is_station a.f_is_station a.d_is_station
 g_is_station : mg "is_station" = some (.ref a.f_is_station)
 k_is_station : PySem.W.keepIn K (.ref a.f_is_station) = true
 F_is_trip_name : Fun K "is_trip_name" "is_trip_name" s_is_trip_name a.f_is_trip_name a.d_is_trip_name
 g_is_trip_name : mg "is_trip_name" = some (.ref a.f_is_trip_name)
 k_is_trip_name : PySem.W.keepIn K (.ref a.f_is_trip_name) = true
 F_is_tripE : Fun K "is_trip" "is_trip" s_is_tripE a.f_is_tripE a.d_is_tripE
 g_is_trip : mg "is_trip" = some (.ref a.f_is_tripE)
 k_is_trip : PySem.W.keepIn K (.ref a.f_is_tripE) = true
 F_valid_beginningE : Fun K "valid_beginning" "valid_beginning" s_valid_beginningE a.f_valid_beginningE a.d_valid_beginningE
 g_valid_beginning : mg "valid_beginning" = some (.ref a.f_valid_beginningE)
 k_valid_beginning : PySem.W.keepIn K (.ref a.f_valid_beginningE) = true
 F_Line_capacity : Fun K "capacity" "Line.capacity" s_Line_capacity a.f_Line_capacity a.d_Line_capacity
 F_Line_trips : Fun K "trips" "Line.trips" s_Line_trips a.f_Line_trips a.d_Line_trips
 F_Line_len : Fun K "__len__" "Line.__len__" s_Line_len a.f_Line_len a.d_Line_len
 F_Line_eq : Fun K "__eq__" "Line.__eq__" s_Line_eq a.f_Line_eq a.d_Line_eq
 F_Line_strB : Fun K "__str__" "Line.__str__" s_Line_strB a.f_Line_strB a.d_Line_strB
 F_Line_reprB : Fun K "__repr__" "Line.__repr__" s_Line_reprB a.f_Line_reprB a.d_Line_reprB
 F_Line_initX : FunX K "__init__" "Line.__init__" s_Line_initX [.ref a.eL] a.cL a.f_Line_initX a.d_Line_initX
 F_load_of : Fun K "load_of" "load_of" s_load_of a.f_load_of a.d_load_of
 g_load_of : mg "load_of" = some (.ref a.f_load_of)
 k_load_of : PySem.W.keepIn K (.ref a.f_load_of) = true
 F_Line_order : Fun K "order" "Line.order" s_Line_order a.f_Line_order a.d_Line_order
 F_Line_peak : Fun K "peak" "Line.peak" s_Line_peak a.f_Line_peak a.d_Line_peak
 F_Line_walk : Fun K "walk" "Line.walk" s_Line_walk a.f_Line_walk a.d_Line_walk
 F_Line_load : Fun K "load" "Line.load" s_Line_load a.f_Line_load a.d_Line_load
 F_number_written : Fun K "number_written" "number_written" s_number_written a.f_number_written a.d_number_written
 g_number_written : mg "number_written" = some (.ref a.f_number_written)
 k_number_written : PySem.W.keepIn K (.ref a.f_number_written) = true
 F_trip_written : Fun K "trip_written" "trip_written" s_trip_written a.f_trip_written a.d_trip_written
 g_trip_written : mg "trip_written" = some (.ref a.f_trip_written)
 k_trip_written : PySem.W.keepIn K (.ref a.f_trip_written) = true
 F_Line_readE : Fun K "read" "Line.read" s_Line_readE a.f_Line_readE a.d_Line_readE
 F_law_draw : Fun K "_law_draw" "_law_draw" s_law_draw a.f_law_draw a.d_law_draw
 g__law_draw : mg "_law_draw" = some (.ref a.f_law_draw)
 k__law_draw : PySem.W.keepIn K (.ref a.f_law_draw) = true
 F_law_far : Fun K "_law_far" "_law_far" s_law_far a.f_law_far a.d_law_far
 g__law_far : mg "_law_far" = some (.ref a.f_law_far)
 k__law_far : PySem.W.keepIn K (.ref a.f_law_far) = true
 F_law_rides : Fun K "_law_rides" "_law_rides" s_law_rides a.f_law_rides a.d_law_rides
 g__law_rides : mg "_law_rides" = some (.ref a.f_law_rides)
 k__law_rides : PySem.W.keepIn K (.ref a.f_law_rides) = true
 F_law_other_fields : Fun K "_law_other_fields" "_law_other_fields" s_law_other_fields a.f_law_other_fields a.d_law_other_fields
 g__law_other_fields : mg "_law_other_fields" = some (.ref a.f_law_other_fields)
 k__law_other_fields : PySem.W.keepIn K (.ref a.f_law_other_fields) = true
 F_law_fields : Fun K "_law_fields" "_law_fields" s_law_fields a.f_law_fields a.d_law_fields
 g__law_fields : mg "_law_fields" = some (.ref a.f_law_fields)
 k__law_fields : PySem.W.keepIn K (.ref a.f_law_fields) = true
 F_law_kind : Fun K "_law_kind" "_law_kind" s_law_kind a.f_law_kind a.d_law_kind
 g__law_kind : mg "_law_kind" = some (.ref a.f_law_kind)
 k__law_kind : PySem.W.keepIn K (.ref a.f_law_kind) = true
 F_law_caught : Fun K "_law_caught" "_law_caught" s_law_caught a.f_law_caught a.d_law_caught
 g__law_caught : mg "_law_caught" = some (.ref a.f_law_caught)
 k__law_caught : PySem.W.keepIn K (.ref a.f_law_caught) = true
 F_law_refused : FunC K "_law_refused" "_law_refused" s_law_refused a.cT a.f_law_refused a.d_law_refused
 g__law_refused : mg "_law_refused" = some (.ref a.f_law_refused)
 k__law_refused : PySem.W.keepIn K (.ref a.f_law_refused) = true
 F_law_shows : Fun K "_law_shows" "_law_shows" s_law_shows a.f_law_shows a.d_law_shows
 g__law_shows : mg "_law_shows" = some (.ref a.f_law_shows)
 k__law_shows : PySem.W.keepIn K (.ref a.f_law_shows) = true
 F_law_words : Fun K "_law_words" "_law_words" s_law_words a.f_law_words a.d_law_words
 g__law_words : mg "_law_words" = some (.ref a.f_law_words)
 k__law_words : PySem.W.keepIn K (.ref a.f_law_words) = true
 F_law_right4 : Fun K "_law_right" "_law_right" s_law_right4 a.f_law_right4 a.d_law_right4
 g__law_right : mg "_law_right" = some (.ref a.f_law_right4)
 k__law_right : PySem.W.keepIn K (.ref a.f_law_right4) = true
 F_law4 : Fun K "law" "law" s_law4 a.f_law4 a.d_law4
 g_law : mg "law" = some (.ref a.f_law4)
 k_law : PySem.W.keepIn K (.ref a.f_law4) = true
 b_ArithmeticError : mg "ArithmeticError" = none
 v_DIGITS : ∃ u, mg "DIGITS" = some u ∧ RelV (.str ("0123456789" : Str)) u
 v_LETTERS : ∃ u, mg "LETTERS" = some u ∧ RelV (.str ("abcdefghijklmnopqrstuvwxyz" : Str)) u
 v_LONGEST_NAME : ∃ u, mg "LONGEST_NAME" = some u ∧ RelV (.int 8) u
 b_LookupError : mg "LookupError" = none
 v_MAX_SEATS : ∃ u, mg "MAX_SEATS" = some u ∧ RelV (.int 20) u
 v_MAX_TRIPS : ∃ u, mg "MAX_TRIPS" = some u ∧ RelV (.int 24) u
 b_ValueError : mg "ValueError" = none
 b_abs : mg "abs" = none
 b_all : mg "all" = none
 b_bool : mg "bool" = none
 b_divmod : mg "divmod" = none
 b_enumerate : mg "enumerate" = none
 b_int : mg "int" = none
 b_isinstance : mg "isinstance" = none
 b_len : mg "len" = none
 b_list : mg "list" = none
 b_max : mg "max" = none
 b_min : mg "min" = none
 b_range : mg "range" = none
 b_repr : mg "repr" = none
 b_sorted : mg "sorted" = none
 b_str : mg "str" = none
 b_super : mg "super" = none
 b_tuple : mg "tuple" = none
section
variable {P : Program} {w : World} {K : PySem.W.Frag} {mg : Str → Option Value} {base : Heap} {a : Ad}
abbrev TT (a : Ad) : List (Addr × Str) := [(a.tL, ("Line.__init__.<locals>.<lambda>" : Str)), (a.tT, ("_law_refused.<locals>.<lambda>" : Str))]
structure TB2 (base : Heap) (mg : Str → Option Value) (a : Ad) : Prop where
 t1 : LamX.TabB base mg a.cL a.tL
 t2 : LamX.TabB base mg a.cT a.tT
theorem TT_mem_t1 (a : Ad) : (a.tL, ("Line.__init__.<locals>.<lambda>" : Str)) ∈ TT a := List.mem_cons_self
theorem TT_mem_t2 (a : Ad) : (a.tT, ("_law_refused.<locals>.<lambda>" : Str)) ∈ TT a := List.mem_cons_of_mem _ List.mem_cons_self
theorem TT_one_t1 (t : Tx P w K mg a) : ∀ q ∈ TT a, q.1 = a.tL → q.2 = ("Line.__init__.<locals>.<lambda>" : Str) := fun q hq e => by
 rcases List.mem_cons.mp hq with rfl | hq
 ·rfl
 ·rw [List.mem_singleton.mp hq] at e
  exact absurd e.symm t.tne
theorem TT_one_t2 (t : Tx P w K mg a) : ∀ q ∈ TT a, q.1 = a.tT → q.2 = ("_law_refused.<locals>.<lambda>" : Str) := fun q hq e => by
 rcases List.mem_cons.mp hq with rfl | hq
 ·exact absurd e t.tne
 ·rw [List.mem_singleton.mp hq]
theorem bd_law_cell (t : Tx P w K mg a) : Binds K a.d_law_cell [("_law_script" : Str), ("_law_k" : Str)] [] := t.F_law_cell.binds fun _ _ _ _ _ _ us hl => match us, hl with | [_, _], _ => rfl
theorem ok_law_cell (t : Tx P w K mg a) (tb : TB2 base mg a) : FnOk P w K mg base CX0 1 a.f_law_cell a.d_law_cell [("_law_script" : Str), ("_law_k" : Str)] (upSp K (TT a) (sp_law_cell K a.CLine)) :=
 okP t.F_law_cell sc_law_cell (fun _ _ h => len_law_cell h) (by decide) fun cdv A outer s H E hr => ⟨ts_law_cell K a.CLine, zs_cons (z_if (zt_cmp zo_lt (zv 1) (z_callB zc_len (by rfl) t.b_len (by decide +kernel) (za_cons (zv 0) (za_nil)))) (zs_one (z_ret (z_ix (zv 0) (zv 1)))) (zs_nil)) (zs_cons (z_set (i := 2) sc_law_cell.nd rfl (Or.inl rfl) (z_op zo_mod (z_op zo_mulA (z_int) (z_op zo_add (z_op zo_add (z_op zo_mulA (zv 1) (zv 1)) (z_op zo_mulA (z_int) (zv 1))) (z_int))) (z_int))) (zs_cons (z_for PassesOwn.never rfl (zi_list (z_slice (zv 0) (zp_none) (zp_some (z_int)))) (zg_name (i := 3) sc_law_cell.nd rfl (Or.inl rfl)) (zs_one (z_set (i := 2) sc_law_cell.nd rfl (Or.inl rfl) (z_op zo_mod (z_op zo_add (z_op zo_mulA (zv 2) (z_int)) (zv 3)) (z_int))))) (zs_one (z_ret (zv 2))))), fun _ _ h => rd_law_cell h⟩
theorem bd_law_pool (t : Tx P w K mg a) : Binds K a.d_law_pool [("_law_cell_here" : Str)] [] := t.F_law_pool.binds fun _ _ _ _ _ _ us hl => match us, hl with | [_], _ => rfl
theorem ok_law_pool (t : Tx P w K mg a) (tb : TB2 base mg a) : FnOk P w K mg base CX0 1 a.f_law_pool a.d_law_pool [("_law_cell_here" : Str)] (upSpF K (TT a) (sp_law_pool K a.CLine)) :=
 okF t.F_law_pool sc_law_pool (fun _ _ h => len_law_pool h) (by decide) fun cdv A outer s H E hr => ⟨ts_law_pool K a.CLine, zsf_cons (z_set (i := 1) sc_law_pool.nd rfl (Or.inl rfl) (z_int)) (zsf_cons (z_if ((zw_or (zt_cmp zo_lt (zv 0) (z_int)) (zw_or1 (zt_cmp zo_ge (zv 0) (z_op zo_pow (z_int) (z_int))))).pt) (zs_one (z_set (i := 1) sc_law_pool.nd rfl (Or.inl rfl) (z_callB zc_abs (by rfl) t.b_abs (by decide +kernel) (za_cons (zv 0) (za_nil))))) (zs_nil)) (zsf_ret (zf_lst (za_cons (z_op zo_mod (zv 0) (z_int)) (za_cons (zv 1) (za_cons (z_int) (za_nil))))))), fun _ _ h => rd_law_pool h⟩
theorem bd_is_integer (t : Tx P w K mg a) : Binds K a.d_is_integer [("thing" : Str)] [] := t.F_is_integer.binds fun _ _ _ _ _ _ us hl => match us, hl with | [_], _ => rfl
theorem ok_is_integer (t : Tx P w K mg a) (tb : TB2 base mg a) : FnOk P w K mg base CX0 1 a.f_is_integer a.d_is_integer [("thing" : Str)] (upSp K (TT a) (sp_is_integer K a.CLine)) :=
 okP t.F_is_integer sc_is_integer (fun _ _ h => len_is_integer h) (by decide) fun cdv A outer s H E hr => ⟨ts_is_integer K a.CLine, zs_one (z_ret (z_and (z_callB zc_isi (by rfl) t.b_isinstance (by decide +kernel) (za_cons (zv 0) (za_cons (z_ty (by rfl) t.b_int (by decide +kernel)) (za_nil)))) (z_one (z_not (z_callB zc_isi (by rfl) t.b_isinstance (by decide +kernel) (za_cons (zv 0) (za_cons (z_ty (by rfl) t.b_bool (by decide +kernel)) (za_nil)))))))), fun _ _ h => rd_is_integer h⟩
theorem bd_check_seatsX (t : Tx P w K mg a) : Binds K a.d_check_seatsX [("seats" : Str)] [] := t.F_check_seatsX.binds fun _ _ _ _ _ _ us hl => match us, hl with | [_], _ => rfl
theorem okx_check_seatsX (t : Tx P w K mg a) (tb : TB2 base mg a) : FnOk P w K mg base (L2N.CX P w) 2 a.f_check_seatsX a.d_check_seatsX [("seats" : Str)] (upSpX K (TT a) (sp_check_seatsX K a.CLine a.XC)) :=
 okXP t.F_check_seatsX sc_check_seatsX (fun _ _ _ h => len_check_seatsX h) (by decide) fun cdv A outer s H E hr tk hp => ⟨ts_check_seatsX K a.CLine a.XC, zxs_one (zx_if ((zw_or (zt_not (zt_val (z_call (ok_is_integer t tb) (hr.mono (by decide)) (by rfl) t.g_is_integer t.k_is_integer (bd_is_integer t) .nil (fun _ _ => .nil) (za_cons (zv 0) (za_nil))))) (zw_or1 (zt_not (zt_chain zo_le zo_le (z_int) (zv 0) (z_gi (by rfl) t.v_MAX_SEATS))))).pt) (zxs_one (zx_raise t.xa_InvalidSeats.ok t.b_super tk rfl (L2H.roomH_of (hr.mono (by decide))) (by rfl) (zv 0))) (zxs_pl (zs_nil))), fun _ _ _ h => rd_check_seatsX h⟩
theorem bd_is_later (t : Tx P w K mg a) : Binds K a.d_is_later [("thing" : Str), ("start" : Str)] [] := t.F_is_later.binds fun _ _ _ _ _ _ us hl => match us, hl with | [_, _], _ => rfl
theorem ok_is_later (t : Tx P w K mg a) (tb : TB2 base mg a) : FnOk P w K mg base CX0 2 a.f_is_later a.d_is_later [("thing" : Str), ("start" : Str)] (upSp K (TT a) (sp_is_later K a.CLine)) :=
 okP t.F_is_later sc_is_later (fun _ _ h => len_is_later h) (by decide) fun cdv A outer s H E hr => ⟨ts_is_later K a.CLine, zs_one (z_ret (z_and (z_call (ok_is_integer t tb) (hr.mono (by decide)) (by rfl) t.g_is_integer t.k_is_integer (bd_is_integer t) .nil (fun _ _ => .nil) (za_cons (zv 0) (za_nil))) (z_one (z_cmp zo_gt (zv 0) (zv 1))))), fun _ _ h => rd_is_later h⟩
theorem bd_is_station (t : Tx P w K mg a) : Binds K a.d_is_station [("thing" : Str)] [] := t.F_is_station.binds fun _ _ _ _ _ _ us hl => match us, hl with | [_], _ => rfl
theorem ok_is_station (t : Tx P w K mg a) (tb : TB2 base mg a) : FnOk P w K mg base CX0 2 a.f_is_station a.d_is_station [("thing" : Str)] (upSp K (TT a) (sp_is_station K a.CLine)) :=
 okP t.F_is_station sc_is_station (fun _ _ h => len_is_station h) (by decide) fun cdv A outer s H E hr => ⟨ts_is_station K a.CLine, zs_one (z_ret (z_and (z_call (ok_is_integer t tb) (hr.mono (by decide)) (by rfl) t.g_is_integer t.k_is_integer (bd_is_integer t) .nil (fun _ _ => .nil) (za_cons (zv 0) (za_nil))) (z_one (z_cmp zo_ge (zv 0) (z_int))))), fun _ _ h => rd_is_station h⟩
theorem bd_is_trip_name (t : Tx P w K mg a) : Binds K a.d_is_trip_name [("thing" : Str)] [] := t.F_is_trip_name.binds fun _ _ _ _ _ _ us hl => match us, hl with | [_], _ => rfl
theorem ok_is_trip_name (t : Tx P w K mg a) (tb : TB2 base mg a) : FnOk P w K mg base CX0 1 a.f_is_trip_name a.d_is_trip_name [("thing" : Str)] (upSp K (TT a) (sp_is_trip_name K a.CLine)) :=
 okP t.F_is_trip_name sc_is_trip_name (fun _ _ h => len_is_trip_name h) (by decide) fun cdv A outer s H E hr => ⟨ts_is_trip_name K a.CLine, zs_cons (z_if ((zw_or (zt_not (zt_val (z_callB zc_isi (by rfl) t.b_isinstance (by decide +kernel) (za_cons (zv 0) (za_cons (z_ty (by rfl) t.b_str (by decide +kernel)) (za_nil)))))) (zw_or1 (zt_not (zt_chain zo_le zo_le (z_int) (z_callB zc_len (by rfl) t.b_len (by decide +kernel) (za_cons (zv 0) (za_nil))) (z_gi (by rfl) t.v_LONGEST_NAME))))).pt) (zs_one (z_ret (z_bl))) (zs_nil)) (zs_one (z_ret (z_callB (zc_all rfl) (by rfl) t.b_all (by decide +kernel) (za_cons (z_val (zf_lc (own := [(("letter" : Str), 1)]) (pe_lc (own := [(("letter" : Str), 1)]) rfl sc_is_trip_name.nd (zi_str (zv 0)) (blkOk_by (own := [(("letter" : Str), 1)]) (N := N_is_trip_name) (sc := defScope s_is_trip_name) (by decide +kernel)) (fun _ _ _ _ _ => zgw_name (by decide) (pg_name (i := 1) sc_is_trip_name.nd rfl (Or.inl rfl))) (fun _ _ _ _ _ => zts_nil) (fun _ _ _ _ _ => z_cmp zo_in (zv 1) (z_gs (by rfl) t.v_LETTERS))))) (za_nil))))), fun _ _ h => rd_is_trip_name h⟩
theorem bd_is_tripE (t : Tx P w K mg a) : Binds K a.d_is_tripE [("thing" : Str)] [] := t.F_is_tripE.binds fun _ _ _ _ _ _ us hl => match us, hl with | [_], _ => rfl
theorem ok_is_tripE (t : Tx P w K mg a) (tb : TB2 base mg a) : FnOk P w K mg base CX0 3 a.f_is_tripE a.d_is_tripE [("thing" : Str)] (upSp K (TT a) (sp_is_tripE K a.CLine)) :=
 okP t.F_is_tripE sc_is_tripE (fun _ _ h => len_is_tripE h) (by decide) fun cdv A outer s H E hr => ⟨ts_is_tripE K a.CLine, zs_cons (z_if ((zw_or (zt_not (zt_val (z_callB zc_isi (by rfl) t.b_isinstance (by decide +kernel) (za_cons (zv 0) (za_cons (z_ty (by rfl) t.b_tuple (by decide +kernel)) (za_nil)))))) (zw_or1 (zt_cmp zo_neI (z_callB zc_len (by rfl) t.b_len (by decide +kernel) (za_cons (zv 0) (za_nil))) (z_int)))).pt) (zs_one (z_ret (z_bl))) (zs_nil)) (zs_cons (z_asg (zv 0) (zg_tup (pg_tup rfl (zgs_cons1 (zg_name (i := 1) sc_is_tripE.nd rfl (Or.inl rfl)) (zgs_cons1 (zg_name (i := 2) sc_is_tripE.nd rfl (Or.inl rfl)) (zgs_cons1 (zg_name (i := 3) sc_is_tripE.nd rfl (Or.inl rfl)) (zgs_nil))))))) (zs_one (z_ret (z_and (z_call (ok_is_trip_name t tb) (hr.mono (by decide)) (by rfl) t.g_is_trip_name t.k_is_trip_name (bd_is_trip_name t) .nil (fun _ _ => .nil) (za_cons (zv 1) (za_nil))) (z_and (z_call (ok_is_station t tb) (hr.mono (by decide)) (by rfl) t.g_is_station t.k_is_station (bd_is_station t) .nil (fun _ _ => .nil) (za_cons (zv 2) (za_nil))) (z_one (z_call (ok_is_later t tb) (hr.mono (by decide)) (by rfl) t.g_is_later t.k_is_later (bd_is_later t) .nil (fun _ _ => .nil) (za_cons (zv 3) (za_cons (zv 2) (za_nil)))))))))), fun _ _ h => rd_is_tripE h⟩
theorem bd_valid_beginningE (t : Tx P w K mg a) : Binds K a.d_valid_beginningE [("trips" : Str)] [] := t.F_valid_beginningE.binds fun _ _ _ _ _ _ us hl => match us, hl with | [_], _ => rfl
theorem ok_valid_beginningE (t : Tx P w K mg a) (tb : TB2 base mg a) : FnOk P w K mg base CX0 4 a.f_valid_beginningE a.d_valid_beginningE [("trips" : Str)] (upSp K (TT a) (sp_valid_beginningE K a.CLine)) :=
 okP t.F_valid_beginningE sc_valid_beginningE (fun _ _ h => len_valid_beginningE h) (by decide) fun cdv A outer s H E hr => ⟨ts_valid_beginningE K a.CLine, zs_cons (z_set (i := 1) sc_valid_beginningE.nd rfl (Or.inl rfl) (z_str)) (zs_cons (z_for PassesOwn.never rfl (zi_enum1 (by rfl) t.b_enumerate (zv 0)) (zg_tup (pg_tup rfl (zgs_cons1 (zg_name (i := 2) sc_valid_beginningE.nd rfl (Or.inl rfl)) (zgs_cons1 (zg_name (i := 3) sc_valid_beginningE.nd rfl (Or.inl rfl)) (zgs_nil))))) (zs_cons (z_if ((zw_or (zt_cmp zo_eqI (zv 2) (z_gi (by rfl) t.v_MAX_TRIPS)) (zw_or (zt_not (zt_val (z_call (ok_is_tripE t tb) (hr.mono (by decide)) (by rfl) t.g_is_trip t.k_is_trip (bd_is_tripE t) .nil (fun _ _ => .nil) (za_cons (zv 3) (za_nil))))) (zw_or1 (zt_cmp zo_le (z_ix (zv 3) (z_int)) (zv 1))))).pt) (zs_one (z_ret (zv 2))) (zs_nil)) (zs_one (z_set (i := 1) sc_valid_beginningE.nd rfl (Or.inl rfl) (z_ix (zv 3) (z_int)))))) (zs_one (z_ret (z_callB zc_len (by rfl) t.b_len (by decide +kernel) (za_cons (zv 0) (za_nil)))))), fun _ _ h => rd_valid_beginningE h⟩
theorem bd_Line_capacity (t : Tx P w K mg a) : Binds K a.d_Line_capacity [("self" : Str)] [] := t.F_Line_capacity.binds fun _ _ _ _ _ _ us hl => match us, hl with | [_], _ => rfl
theorem ok_Line_capacity (t : Tx P w K mg a) (tb : TB2 base mg a) : FnOk P w K mg base CX0 1 a.f_Line_capacity a.d_Line_capacity [("self" : Str)] (upSp K (TT a) (sp_Line_capacity K a.CLine)) :=
 okP t.F_Line_capacity sc_Line_capacity (fun _ _ h => len_Line_capacity h) (by decide) fun cdv A outer s H E hr => ⟨ts_Line_capacity K a.CLine, zs_one (z_ret (z_fld t.cl t.n_seat_count (zv 0))), fun _ _ h => rd_Line_capacity h⟩
theorem bd_Line_trips (t : Tx P w K mg a) : Binds K a.d_Line_trips [("self" : Str)] [] := t.F_Line_trips.binds fun _ _ _ _ _ _ us hl => match us, hl with | [_], _ => rfl
theorem ok_Line_trips (t : Tx P w K mg a) (tb : TB2 base mg a) : FnOk P w K mg base CX0 1 a.f_Line_trips a.d_Line_trips [("self" : Str)] (upSp K (TT a) (sp_Line_trips K a.CLine)) :=
 okP t.F_Line_trips sc_Line_trips (fun _ _ h => len_Line_trips h) (by decide) fun cdv A outer s H E hr => ⟨ts_Line_trips K a.CLine, zs_one (z_ret (z_fld t.cl t.n_rows (zv 0))), fun _ _ h => rd_Line_trips h⟩
theorem bd_Line_len (t : Tx P w K mg a) : Binds K a.d_Line_len [("self" : Str)] [] := t.F_Line_len.binds fun _ _ _ _ _ _ us hl => match us, hl with | [_], _ => rfl
theorem ok_Line_len (t : Tx P w K mg a) (tb : TB2 base mg a) : FnOk P w K mg base CX0 1 a.f_Line_len a.d_Line_len [("self" : Str)] (upSp K (TT a) (sp_Line_len K a.CLine)) :=
 okP t.F_Line_len sc_Line_len (fun _ _ h => len_Line_len h) (by decide) fun cdv A outer s H E hr => ⟨ts_Line_len K a.CLine, zs_one (z_ret (z_callB zc_len (by rfl) t.b_len (by decide +kernel) (za_cons (z_fld t.cl t.n_rows (zv 0)) (za_nil)))), fun _ _ h => rd_Line_len h⟩
theorem bd_Line_eq (t : Tx P w K mg a) : Binds K a.d_Line_eq [("self" : Str), ("other" : Str)] [] := t.F_Line_eq.binds fun _ _ _ _ _ _ us hl => match us, hl with | [_, _], _ => rfl
theorem ok_Line_eq (t : Tx P w K mg a) (tb : TB2 base mg a) : FnOk P w K mg base CX0 1 a.f_Line_eq a.d_Line_eq [("self" : Str), ("other" : Str)] (upSp K (TT a) (sp_Line_eq K a.CLine)) :=
 okP t.F_Line_eq sc_Line_eq (fun _ _ h => len_Line_eq h) (by decide) fun cdv A outer s H E hr => ⟨ts_Line_eq K a.CLine, zs_one (z_ret (z_and (z_callB zc_isi (by rfl) t.b_isinstance (by decide +kernel) (za_cons (zv 1) (za_cons (z_gc (by rfl) t.g_Line) (za_nil)))) (z_and (z_cmp (zo_eq hr.units) (z_fld t.cl t.n_seat_count (zv 0)) (z_fld t.cl t.n_seat_count (zv 1))) (z_one (z_cmp (zo_eq hr.units) (z_fld t.cl t.n_rows (zv 0)) (z_fld t.cl t.n_rows (zv 1))))))), fun _ _ h => rd_Line_eq h⟩
theorem bd_Line_strB (t : Tx P w K mg a) : Binds K a.d_Line_strB [("self" : Str)] [] := t.F_Line_strB.binds fun _ _ _ _ _ _ us hl => match us, hl with | [_], _ => rfl
theorem ok_Line_strB (t : Tx P w K mg a) (tb : TB2 base mg a) : FnOk P w K mg base CX0 1 a.f_Line_strB a.d_Line_strB [("self" : Str)] (upSp K (TT a) (sp_Line_strB K a.CLine)) :=
 okP t.F_Line_strB sc_Line_strB (fun _ _ h => len_Line_strB h) (by decide) fun cdv A outer s H E hr => ⟨ts_Line_strB K a.CLine, zs_cons (z_setLc (own := [(("name" : Str), 2), (("start" : Str), 3), (("end" : Str), 4)]) (i := 1) (ps_setLc (own := [(("name" : Str), 2), (("start" : Str), 3), (("end" : Str), 4)]) rfl sc_Line_strB.nd (i := 1) rfl rfl rfl (zi_tup (z_fld t.cl t.n_rows (zv 0))) (blkOk_by (own := [(("name" : Str), 2), (("start" : Str), 3), (("end" : Str), 4)]) (N := N_Line_strB) (sc := defScope s_Line_strB) (by decide +kernel)) (fun _ _ _ _ _ => zgw_tup (pg_tup rfl (zgsw_cons (pgs_cons (zgw_name (by decide) (pg_name (i := 2) sc_Line_strB.nd rfl (Or.inl rfl))) (zgsw_cons (pgs_cons (zgw_name (by decide) (pg_name (i := 3) sc_Line_strB.nd rfl (Or.inl rfl))) (zgsw_cons (pgs_cons (zgw_name (by decide) (pg_name (i := 4) sc_Line_strB.nd rfl (Or.inl rfl))) (zgsw_nil))))))))) (fun _ _ _ _ _ => zts_nil) (fun _ _ _ _ _ => z_js (ts := [tFmtP (tVarP 2), tConP (.str (":" : Str)), tFmtP (tVarP 3), tConP (.str ("-" : Str)), tFmtP (tVarP 4)]) (.cons (z_fmt (zv 2)) (.cons (z_str) (.cons (z_fmt (zv 3)) (.cons (z_str) (.cons (z_fmt (zv 4)) (.nil))))))))) (zs_one (z_ret (z_join rfl (pe_join (z_str) (z_lst (za_cons (z_callTy zc_str (by rfl) t.b_str (by decide +kernel) (za_cons (z_fld t.cl t.n_seat_count (zv 0)) (za_nil))) (za_star (zv 1) (za_nil)))))))), fun _ _ h => rd_Line_strB h⟩
theorem bd_Line_reprB (t : Tx P w K mg a) : Binds K a.d_Line_reprB [("self" : Str)] [] := t.F_Line_reprB.binds fun _ _ _ _ _ _ us hl => match us, hl with | [_], _ => rfl
theorem ok_Line_reprB (t : Tx P w K mg a) (tb : TB2 base mg a) : FnOk P w K mg base CX0 5 a.f_Line_reprB a.d_Line_reprB [("self" : Str)] (upSp K (TT a) (sp_Line_reprB K a.CLine)) :=
 okP t.F_Line_reprB sc_Line_reprB (fun _ _ h => len_Line_reprB h) (by decide) fun cdv A outer s H E hr => ⟨ts_Line_reprB K a.CLine, zs_one (z_ret (z_js (ts := [tConP (.str ("Line('" : Str)), tFmtP (tStrOP a.CLine (sp_Line_strB K a.CLine) (tConsP (tVarP 0) (tNilP))), tConP (.str ("')" : Str))]) (.cons (z_str) (.cons (z_fmt (z_strO t.ow (call_strO (ok_Line_strB t tb) (hr.mono (by decide)) t.ow (bd_Line_strB t)) (by rfl) t.b_str (by decide +kernel) (za_cons (zv 0) (za_nil)))) (.cons (z_str) (.nil)))))), fun _ _ h => rd_Line_reprB h⟩
theorem bd_Line_initX (t : Tx P w K mg a) : Binds K a.d_Line_initX [("self" : Str), ("seats" : Str), ("trips" : Str)] [] := t.F_Line_initX.b0 (by simp) fun T kV doc pm an cdv ct us its h1 h2 => match us, its, h1, h2 with | [_, _, _], [_], _, _ => ⟨_, rfl, rfl⟩
theorem kb_trips_seats (t : Tx P w K mg a) : ∃ its : List Value, KBn K a.d_Line_initX [("self" : Str), ("seats" : Str), ("trips" : Str)] 1 [("trips" : Str), ("seats" : Str)] (fun us ws => (fun ds => us ++ ws.reverse) its) (fun vs zs => vs ++ zs.reverse) :=
 t.F_Line_initX.d.kbindsD 1 [("trips" : Str), ("seats" : Str)] (fun us ds ws => us ++ ws.reverse) (by simp) (fun r1 rd r2 => r1.append (vals_rev r2)) fun T kV doc pm an cdv ct us its ws h1 h2 h3 => match us, its, ws, h1, h2, h3 with | [_], [_], [_, _], _, _, _ => ⟨_, rfl, rfl⟩
theorem okx_Line_initX (t : Tx P w K mg a) (tb : TB2 base mg a) : FnOk P w K mg base (L2N.CX P w) 5 a.f_Line_initX a.d_Line_initX [("self" : Str), ("seats" : Str), ("trips" : Str)] (upSpRX K (TT a) (sp_Line_initX K a.CLine a.XC)) :=
 okXRX (nm := ("self" : Str)) (N := [("seats" : Str), ("trips" : Str), ("valid" : Str)]) (ps := [("seats" : Str), ("trips" : Str)]) t.F_Line_initX sc_Line_initX (fun _ _ _ _ h => len_Line_initX h) (by decide) fun A outer s H E hr tk hp => ⟨ts_Line_initX K a.CLine a.XC, zxs_cons (zx_expr (zx_call (okx_check_seatsX t tb) tk (hr.mono (by decide)) (by rfl) t.g_check_seats t.k_check_seats (bd_check_seatsX t) .nil (fun _ _ => .nil) (za_cons (zv 1) (za_nil)))) (zxs_cons (zx_if (zt_not (zt_val (z_callB zc_isi (by rfl) t.b_isinstance (by decide +kernel) (za_cons (zv 2) (za_cons (z_ty (by rfl) t.b_tuple (by decide +kernel)) (za_nil)))))) (zxs_one (zx_raise t.xa_InvalidTrips.ok t.b_super tk rfl (L2H.roomH_of (hr.mono (by decide))) (by rfl) (z_non))) (zxs_pl (zs_nil))) (zxs_cons (zx_pl (z_set (i := 3) sc_Line_initX.nd rfl (Or.inl rfl) (z_call (ok_valid_beginningE t tb) (hr.mono (by decide)) (by rfl) t.g_valid_beginning t.k_valid_beginning (bd_valid_beginningE t) .nil (fun _ _ => .nil) (za_cons (zv 2) (za_nil))))) (zxs_cons (zx_if (zt_cmp zo_lt (zv 3) (z_callB zc_len (by rfl) t.b_len (by decide +kernel) (za_cons (zv 2) (za_nil)))) (zxs_one (zx_raise t.xa_InvalidTrips.ok t.b_super tk rfl (L2H.roomH_of (hr.mono (by decide))) (by rfl) (zv 3))) (zxs_pl (zs_nil))) (zxs_pl (zs_cons (z_fldS t.cl t.n_seat_count (pv 0) (zv 1)) (zs_cons (z_fldS t.cl t.n_rows (pv 0) (zv 2)) (zs_one (z_fldS t.cl t.n_queue (pv 0) (z_callTy zc_tuple (by rfl) t.b_tuple (by decide +kernel) (za_cons (z_sortL (x := Str.empty) (i := 1) (j := 0) (nm := ("row" : Str)) (by rfl) t.b_sorted (zv 2) hr ⟨rfl, rfl, rfl, rfl, by decide +kernel⟩ rfl tb.t1 rfl (TT_mem_t1 a) (TT_one_t1 t) (by decide +kernel) rfl (fun _ _ _ _ _ => rfl) ⟨by decide, by decide⟩ ⟨by decide, by decide⟩ (by decide)) (za_nil))))))))))), fun _ _ _ _ h => rd_Line_initX h⟩
theorem bd_load_of (t : Tx P w K mg a) : Binds K a.d_load_of [("trips" : Str), ("station" : Str)] [] := t.F_load_of.binds fun _ _ _ _ _ _ us hl => match us, hl with | [_, _], _ => rfl
theorem ok_load_of (t : Tx P w K mg a) (tb : TB2 base mg a) : FnOk P w K mg base CX0 1 a.f_load_of a.d_load_of [("trips" : Str), ("station" : Str)] (upSp K (TT a) (sp_load_of K a.CLine)) :=
 okP t.F_load_of sc_load_of (fun _ _ h => len_load_of h) (by decide) fun cdv A outer s H E hr => ⟨ts_load_of K a.CLine, zs_one (z_ret (z_callB zc_len (by rfl) t.b_len (by decide +kernel) (za_cons (z_val (zf_lc (own := [(("name" : Str), 2), (("start" : Str), 3), (("end" : Str), 4)]) (pe_lc (own := [(("name" : Str), 2), (("start" : Str), 3), (("end" : Str), 4)]) rfl sc_load_of.nd (zi_tup (zv 0)) (blkOk_by (own := [(("name" : Str), 2), (("start" : Str), 3), (("end" : Str), 4)]) (N := N_load_of) (sc := defScope s_load_of) (by decide +kernel)) (fun _ _ _ _ _ => zgw_tup (pg_tup rfl (zgsw_cons (pgs_cons (zgw_name (by decide) (pg_name (i := 2) sc_load_of.nd rfl (Or.inl rfl))) (zgsw_cons (pgs_cons (zgw_name (by decide) (pg_name (i := 3) sc_load_of.nd rfl (Or.inl rfl))) (zgsw_cons (pgs_cons (zgw_name (by decide) (pg_name (i := 4) sc_load_of.nd rfl (Or.inl rfl))) (zgsw_nil))))))))) (fun _ _ _ _ _ => zts_one (zt_chain zo_le zo_lt (zv 3) (zv 1) (zv 4))) (fun _ _ _ _ _ => zv 2)))) (za_nil)))), fun _ _ h => rd_load_of h⟩
theorem bd_Line_order (t : Tx P w K mg a) : Binds K a.d_Line_order [("self" : Str)] [] := t.F_Line_order.binds fun _ _ _ _ _ _ us hl => match us, hl with | [_], _ => rfl
theorem ok_Line_order (t : Tx P w K mg a) (tb : TB2 base mg a) : FnOk P w K mg base CX0 1 a.f_Line_order a.d_Line_order [("self" : Str)] (upSp K (TT a) (sp_Line_order K a.CLine)) :=
 okP t.F_Line_order sc_Line_order (fun _ _ h => len_Line_order h) (by decide) fun cdv A outer s H E hr => ⟨ts_Line_order K a.CLine, zs_one (z_ret (z_callTy zc_tuple (by rfl) t.b_tuple (by decide +kernel) (za_cons (z_val (zf_lc (own := [(("row" : Str), 1)]) (pe_lc (own := [(("row" : Str), 1)]) rfl sc_Line_order.nd (zi_tup (z_fld t.cl t.n_queue (zv 0))) (blkOk_by (own := [(("row" : Str), 1)]) (N := N_Line_order) (sc := defScope s_Line_order) (by decide +kernel)) (fun _ _ _ _ _ => zgw_name (by decide) (pg_name (i := 1) sc_Line_order.nd rfl (Or.inl rfl))) (fun _ _ _ _ _ => zts_nil) (fun _ _ _ _ _ => z_ix (zv 1) (z_int))))) (za_nil)))), fun _ _ h => rd_Line_order h⟩
theorem bd_Line_peak (t : Tx P w K mg a) : Binds K a.d_Line_peak [("self" : Str)] [] := t.F_Line_peak.binds fun _ _ _ _ _ _ us hl => match us, hl with | [_], _ => rfl
theorem ok_Line_peak (t : Tx P w K mg a) (tb : TB2 base mg a) : FnOk P w K mg base CX0 2 a.f_Line_peak a.d_Line_peak [("self" : Str)] (upSp K (TT a) (sp_Line_peak K a.CLine)) :=
 okP t.F_Line_peak sc_Line_peak (fun _ _ h => len_Line_peak h) (by decide) fun cdv A outer s H E hr => ⟨ts_Line_peak K a.CLine, zs_one (z_ret (z_maxD rfl hr.units (by rfl) t.b_max (by decide +kernel) (za_cons (z_val (zf_lc (own := [(("row" : Str), 1)]) (pe_lc (own := [(("row" : Str), 1)]) rfl sc_Line_peak.nd (zi_tup (z_fld t.cl t.n_rows (zv 0))) (blkOk_by (own := [(("row" : Str), 1)]) (N := N_Line_peak) (sc := defScope s_Line_peak) (by decide +kernel)) (fun _ _ _ _ _ => zgw_name (by decide) (pg_name (i := 1) sc_Line_peak.nd rfl (Or.inl rfl))) (fun _ _ _ _ _ => zts_nil) (fun _ _ _ _ _ => z_call (ok_load_of t tb) (hr.mono (by decide)) (by rfl) t.g_load_of t.k_load_of (bd_load_of t) .nil (fun _ _ => .nil) (za_cons (z_fld t.cl t.n_rows (zv 0)) (za_cons (z_ix (zv 1) (z_int)) (za_nil))))))) (za_nil)) (zk_cons (z_int) (zk_nil)))), fun _ _ h => rd_Line_peak h⟩
theorem bd_Line_walk (t : Tx P w K mg a) : Binds K a.d_Line_walk [("self" : Str)] [] := t.F_Line_walk.binds fun _ _ _ _ _ _ us hl => match us, hl with | [_], _ => rfl
theorem gfn_Line_walk (t : Tx P w K mg a) : GFn P w K mg base 1 a.f_Line_walk a.d_Line_walk [("self" : Str)] (spField K a.CLine "queue") :=
 gfn_walk t.F_Line_walk sc_Line_walk t.cl t.n_queue 0 fun cdv A outer s H E pn => gss_cons (gs_for owns_gcx rfl (pi_tup (pe_fld (pv 0) (by rfl))) (pg_name (i := 1) sc_Line_walk.nd rfl (Or.inl rfl)) (gss_cons (gs_yield (pv 1)) gss_nil)) gss_nil
theorem bd_Line_load (t : Tx P w K mg a) : Binds K a.d_Line_load [("self" : Str), ("station" : Str)] [] := t.F_Line_load.binds fun _ _ _ _ _ _ us hl => match us, hl with | [_, _], _ => rfl
theorem ok_Line_load (t : Tx P w K mg a) (tb : TB2 base mg a) : FnOk P w K mg base CX0 3 a.f_Line_load a.d_Line_load [("self" : Str), ("station" : Str)] (upSp K (TT a) (sp_Line_load K a.CLine)) :=
 okP t.F_Line_load sc_Line_load (fun _ _ h => len_Line_load h) (by decide) fun cdv A outer s H E hr => ⟨ts_Line_load K a.CLine, zs_cons (z_if (zt_not (zt_val (z_call (ok_is_station t tb) (hr.mono (by decide)) (by rfl) t.g_is_station t.k_is_station (bd_is_station t) .nil (fun _ _ => .nil) (za_cons (zv 1) (za_nil))))) (zs_one (z_never)) (zs_nil)) (zs_one (z_ret (z_call (ok_load_of t tb) (hr.mono (by decide)) (by rfl) t.g_load_of t.k_load_of (bd_load_of t) .nil (fun _ _ => .nil) (za_cons (z_fld t.cl t.n_rows (zv 0)) (za_cons (zv 1) (za_nil)))))), fun _ _ h => rd_Line_load h⟩
theorem bd_number_written (t : Tx P w K mg a) : Binds K a.d_number_written [("word" : Str)] [] := t.F_number_written.binds fun _ _ _ _ _ _ us hl => match us, hl with | [_], _ => rfl
theorem ok_number_written (t : Tx P w K mg a) (tb : TB2 base mg a) : FnOk P w K mg base CX0 1 a.f_number_written a.d_number_written [("word" : Str)] (upSp K (TT a) (sp_number_written K a.CLine)) :=
 okP t.F_number_written sc_number_written (fun _ _ h => len_number_written h) (by decide) fun cdv A outer s H E hr => ⟨ts_number_written K a.CLine, zs_cons (z_if ((zw_or (zt_cmp zo_eqI (zv 0) (z_str)) (zw_or1 (zt_not (zt_val (z_callB (zc_all rfl) (by rfl) t.b_all (by decide +kernel) (za_cons (z_val (zf_lc (own := [(("digit" : Str), 1)]) (pe_lc (own := [(("digit" : Str), 1)]) rfl sc_number_written.nd (zi_str (zv 0)) (blkOk_by (own := [(("digit" : Str), 1)]) (N := N_number_written) (sc := defScope s_number_written) (by decide +kernel)) (fun _ _ _ _ _ => zgw_name (by decide) (pg_name (i := 1) sc_number_written.nd rfl (Or.inl rfl))) (fun _ _ _ _ _ => zts_nil) (fun _ _ _ _ _ => z_cmp zo_in (zv 1) (z_gs (by rfl) t.v_DIGITS))))) (za_nil))))))).pt) (zs_one (z_ret (z_non))) (zs_nil)) (zs_cons (z_if ((zw_and (zt_cmp zo_eqI (z_ix (zv 0) (z_int)) (z_str)) (zw_and1 (zt_cmp zo_gt (z_callB zc_len (by rfl) t.b_len (by decide +kernel) (za_cons (zv 0) (za_nil))) (z_int)))).pt) (zs_one (z_ret (z_non))) (zs_nil)) (zs_one (z_ret (z_callTy zc_intS (by rfl) t.b_int (by decide +kernel) (za_cons (zv 0) (za_nil)))))), fun _ _ h => rd_number_written h⟩
theorem bd_trip_written (t : Tx P w K mg a) : Binds K a.d_trip_written [("word" : Str)] [] := t.F_trip_written.binds fun _ _ _ _ _ _ us hl => match us, hl with | [_], _ => rfl
theorem ok_trip_written (t : Tx P w K mg a) (tb : TB2 base mg a) : FnOk P w K mg base CX0 2 a.f_trip_written a.d_trip_written [("word" : Str)] (upSp K (TT a) (sp_trip_written K a.CLine)) :=
 okP t.F_trip_written sc_trip_written (fun _ _ h => len_trip_written h) (by decide) fun cdv A outer s H E hr => ⟨ts_trip_written K a.CLine, zs_cons (z_asg (z_parti rfl (pe_partition (zv 0) (z_str))) (zg_tup (pg_tup rfl (zgs_cons1 (zg_name (i := 1) sc_trip_written.nd rfl (Or.inl rfl)) (zgs_cons1 (zg_name (i := 2) sc_trip_written.nd rfl (Or.inl rfl)) (zgs_cons1 (zg_name (i := 3) sc_trip_written.nd rfl (Or.inl rfl)) (zgs_nil))))))) (zs_cons (z_asg (z_parti rfl (pe_partition (zv 3) (z_str))) (zg_tup (pg_tup rfl (zgs_cons1 (zg_name (i := 4) sc_trip_written.nd rfl (Or.inl rfl)) (zgs_cons1 (zg_name (i := 5) sc_trip_written.nd rfl (Or.inl rfl)) (zgs_cons1 (zg_name (i := 6) sc_trip_written.nd rfl (Or.inl rfl)) (zgs_nil))))))) (zs_one (z_ret (z_tup (za_cons (zv 1) (za_cons (z_call (ok_number_written t tb) (hr.mono (by decide)) (by rfl) t.g_number_written t.k_number_written (bd_number_written t) .nil (fun _ _ => .nil) (za_cons (zv 4) (za_nil))) (za_cons (z_call (ok_number_written t tb) (hr.mono (by decide)) (by rfl) t.g_number_written t.k_number_written (bd_number_written t) .nil (fun _ _ => .nil) (za_cons (zv 6) (za_nil))) (za_nil)))))))), fun _ _ h => rd_trip_written h⟩
theorem bd_Line_readE (t : Tx P w K mg a) : Binds K a.d_Line_readE [("cls" : Str), ("text" : Str)] [] := t.F_Line_readE.binds fun _ _ _ _ _ _ us hl => match us, hl with | [_, _], _ => rfl
theorem okx_Line_readE (t : Tx P w K mg a) (tb : TB2 base mg a) : FnOk P w K mg base (L2.CX P w) 7 a.f_Line_readE a.d_Line_readE [("cls" : Str), ("text" : Str)] (upSpX K (TT a) (sp_Line_readE K a.CLine a.XC)) :=
 okXPC t.F_Line_readE sc_Line_readE (fun _ _ _ h => len_Line_readE h) (by decide) fun cdv A outer s H E hr tk hp hpa => ⟨ts_Line_readE K a.CLine a.XC, zxs_cons (zx_if (zt_not (zt_val (z_callB zc_isi (by rfl) t.b_isinstance (by decide +kernel) (za_cons (zv 1) (za_cons (z_ty (by rfl) t.b_str (by decide +kernel)) (za_nil)))))) (zxs_one (zx_raise t.xa_InvalidText.ok t.b_super (L2N.takesN tk) rfl (L2H.roomH_of (hr.mono (by decide))) (by rfl) (zv 1))) (zxs_pl (zs_nil))) (zxs_cons (zx_pl (z_set (i := 2) sc_Line_readE.nd rfl (Or.inl rfl) (z_split rfl (pe_split (zv 1) (z_str))))) (zxs_cons (zx_pl (z_set (i := 3) sc_Line_readE.nd rfl (Or.inl rfl) (z_callTy zc_tuple (by rfl) t.b_tuple (by decide +kernel) (za_cons (z_val (zf_lc (own := [(("word" : Str), 4)]) (pe_lc (own := [(("word" : Str), 4)]) rfl sc_Line_readE.nd (zi_list (z_slice (zv 2) (zp_some (z_int)) (zp_none))) (blkOk_by (own := [(("word" : Str), 4)]) (N := N_Line_readE) (sc := defScope s_Line_readE) (by decide +kernel)) (fun _ _ _ _ _ => zgw_name (by decide) (pg_name (i := 4) sc_Line_readE.nd rfl (Or.inl rfl))) (fun _ _ _ _ _ => zts_nil) (fun _ _ _ _ _ => z_call (ok_trip_written t tb) (hr.mono (by decide)) (by rfl) t.g_trip_written t.k_trip_written (bd_trip_written t) .nil (fun _ _ => .nil) (za_cons (zv 4) (za_nil)))))) (za_nil))))) (zxs_one (zx_tryR rfl rfl (.cons ⟨rfl, rfl, .inl t.g_InvalidSeats⟩ (.cons ⟨rfl, rfl, .inl t.g_InvalidTrips⟩ .nil)) L2N.tupM2 (by simp) hpa tk (fun W1 pn1 xe1 tk1 hp1 => zxs_one (zx_ret (zx_newL (i := 0) t.mkL (okx_Line_initX t tb) tk1 (hr.mono (by decide)) rfl (Or.inl rfl) (bd_Line_initX t) .nil (fun _ _ => .nil) (za_cons (z_call (ok_number_written t tb) (hr.mono (by decide)) (by rfl) t.g_number_written t.k_number_written (bd_number_written t) .nil (fun _ _ => .nil) (za_cons (z_ix (zv 2) (z_int)) (za_nil))) (za_cons (zv 3) (za_nil)))))) t.xa_InvalidText.ok t.b_super (L2H.roomH_of (hr.mono (by decide))) (by rfl) (fun _ _ => zv 1))))), fun _ _ _ h => rd_Line_readE h⟩
theorem bd_law_draw (t : Tx P w K mg a) : Binds K a.d_law_draw [("_law_pool_here" : Str), ("_law_many" : Str)] [] := t.F_law_draw.binds fun _ _ _ _ _ _ us hl => match us, hl with | [_, _], _ => rfl
theorem ok_law_draw (t : Tx P w K mg a) (tb : TB2 base mg a) : FnOk P w K mg base CX0 1 a.f_law_draw a.d_law_draw [("_law_pool_here" : Str), ("_law_many" : Str)] (upSpR K (TT a) (sp_law_draw K a.CLine)) :=
 okR (nm := ("_law_pool_here" : Str)) (N := [("_law_many" : Str), ("_law_state" : Str), ("_law_digit" : Str)]) (ps := [("_law_many" : Str)]) t.F_law_draw sc_law_draw (fun _ _ _ h => len_law_draw h) (by decide) fun cdv A outer s H E hr => ⟨ts_law_draw K a.CLine, zs_cons (z_asg (z_op zo_add (z_ixO (pv 0) (z_int)) (z_int)) (zg_sub (pv 0) (z_int) (pg_sub (pv 0) (z_int) set_list))) (zs_cons (z_set (i := 2) sc_law_draw.nd rfl (Or.inl rfl) (z_ixO (pv 0) (z_int))) (zs_cons (z_asg (z_op zo_mod (z_op zo_add (z_op zo_add (z_op zo_mulA (zv 2) (z_op zo_add (z_op zo_mod (zv 2) (z_int)) (z_int))) (z_op zo_mulA (z_int) (z_ixO (pv 0) (z_int)))) (z_int)) (z_int)) (zg_sub (pv 0) (z_int) (pg_sub (pv 0) (z_int) set_list))) (zs_cons (z_if (zt_cmp zo_gt (z_ixO (pv 0) (z_int)) (z_int)) (zs_cons (z_asg (z_callB zc_divmodW (by rfl) t.b_divmod (by decide +kernel) (za_cons (z_ixO (pv 0) (z_int)) (za_cons (zv 1) (za_nil)))) (zg_tup (pg_tup rfl (zgs_cons1 (zg_sub (pv 0) (z_int) (pg_sub (pv 0) (z_int) set_list)) (zgs_cons1 (zg_name (i := 3) sc_law_draw.nd rfl (Or.inl rfl)) (zgs_nil)))))) (zs_one (z_ret (zv 3)))) (zs_nil)) (zs_one (z_ret (z_op zo_mod (z_op zo_div (z_ixO (pv 0) (z_int)) (z_int)) (zv 1))))))), fun _ _ _ h => rd_law_draw h⟩
theorem bd_law_far (t : Tx P w K mg a) : Binds K a.d_law_far [("_law_pool_here" : Str), ("_law_high" : Str)] [] := t.F_law_far.binds fun _ _ _ _ _ _ us hl => match us, hl with | [_, _], _ => rfl
theorem ok_law_far (t : Tx P w K mg a) (tb : TB2 base mg a) : FnOk P w K mg base CX0 2 a.f_law_far a.d_law_far [("_law_pool_here" : Str), ("_law_high" : Str)] (upSpR K (TT a) (sp_law_far K a.CLine)) :=
 okR (nm := ("_law_pool_here" : Str)) (N := [("_law_high" : Str), ("_law_found" : Str), ("_law_here" : Str), ("_law_way" : Str), ("_law_k" : Str)]) (ps := [("_law_high" : Str)]) t.F_law_far sc_law_far (fun _ _ _ h => len_law_far h) (by decide) fun cdv A outer s H E hr => ⟨ts_law_far K a.CLine, zs_cons (z_par3 (i := 2) (j := 3) (l := 4) rfl (ps_par3 (i := 2) (j := 3) (l := 4) rfl sc_law_far.nd rfl rfl rfl (by decide) (by decide) (by decide) rfl rfl rfl (zr_f (zf_lst (za_nil)) (zr_v (z_callR (ok_law_draw t tb) (hr.mono (by decide)) (by rfl) t.g__law_draw t.k__law_draw (bd_law_draw t) (pa_cons (pv 0) (za_cons (z_int) (za_nil)))) (zr_v (z_callR (ok_law_draw t tb) (hr.mono (by decide)) (by rfl) t.g__law_draw t.k__law_draw (bd_law_draw t) (pa_cons (pv 0) (za_cons (z_int) (za_nil)))) (zr_nil)))) (by rfl))) (zs_cons (z_for PassesOwn.never rfl (zi_range1 (by rfl) t.b_range (z_op zo_add (zv 1) (z_int))) (zg_name (i := 5) sc_law_far.nd rfl (Or.inl rfl)) (zs_cons (z_app rfl (ps_expr (pe_bm PySem.F.plainAttrs_list PySem.F.slot_list_append PySem.F.type_list_append mt_append (pv 2) (pa_cons (z_ifExp (zt_cmp zo_gt (zv 4) (z_int)) (zv 5) (zv 3)) pa_nil)))) (zs_one (z_set (i := 3) sc_law_far.nd rfl (Or.inl rfl) (z_op zo_add (z_op zo_add (zv 3) (z_int)) (z_ix (z_lst (za_cons (z_int) (za_cons (z_callR (ok_law_draw t tb) (hr.mono (by decide)) (by rfl) t.g__law_draw t.k__law_draw (bd_law_draw t) (pa_cons (pv 0) (za_cons (z_int) (za_nil)))) (za_cons (z_op zo_pow (z_int) (z_int)) (za_nil))))) (z_callR (ok_law_draw t tb) (hr.mono (by decide)) (by rfl) t.g__law_draw t.k__law_draw (bd_law_draw t) (pa_cons (pv 0) (za_cons (z_int) (za_nil)))))))))) (zs_one (z_ret (zv 2)))), fun _ _ _ h => rd_law_far h⟩
theorem bd_law_rides (t : Tx P w K mg a) : Binds K a.d_law_rides [("_law_pool_here" : Str), ("_law_words_here" : Str), ("_law_high" : Str)] [] := t.F_law_rides.binds fun _ _ _ _ _ _ us hl => match us, hl with | [_, _, _], _ => rfl
theorem ok_law_rides (t : Tx P w K mg a) (tb : TB2 base mg a) : FnOk P w K mg base CX0 3 a.f_law_rides a.d_law_rides [("_law_pool_here" : Str), ("_law_words_here" : Str), ("_law_high" : Str)] (upSpR K (TT a) (sp_law_rides K a.CLine)) :=
 okR (nm := ("_law_pool_here" : Str)) (N := [("_law_words_here" : Str), ("_law_high" : Str), ("_law_places" : Str), ("_law_found" : Str), ("_law_last" : Str), ("_law_word" : Str), ("_law_way" : Str), ("_law_begin" : Str)]) (ps := [("_law_words_here" : Str), ("_law_high" : Str)]) t.F_law_rides sc_law_rides (fun _ _ _ h => len_law_rides h) (by decide) fun cdv A outer s H E hr => ⟨ts_law_rides K a.CLine, zs_cons (z_par3 (i := 3) (j := 4) (l := 5) rfl (ps_par3 (i := 3) (j := 4) (l := 5) rfl sc_law_rides.nd rfl rfl rfl (by decide) (by decide) (by decide) rfl rfl rfl (zr_v (z_callR (ok_law_far t tb) (hr.mono (by decide)) (by rfl) t.g__law_far t.k__law_far (bd_law_far t) (pa_cons (pv 0) (za_cons (zv 2) (za_nil)))) (zr_f (zf_lst (za_nil)) (zr_v (z_int) (zr_nil)))) (by rfl))) (zs_cons (z_for PassesOwn.never rfl (zi_list (zv 1)) (zg_name (i := 6) sc_law_rides.nd rfl (Or.inl rfl)) (zs_cons (z_set (i := 7) sc_law_rides.nd rfl (Or.inl rfl) (z_callR (ok_law_draw t tb) (hr.mono (by decide)) (by rfl) t.g__law_draw t.k__law_draw (bd_law_draw t) (pa_cons (pv 0) (za_cons (z_int) (za_nil))))) (zs_cons (z_set (i := 8) sc_law_rides.nd rfl (Or.inl rfl) (z_ifExp ((zw_and (zt_cmp (zo_eq hr.units) (zv 7) (z_int)) (zw_and1 (zt_cmp zo_lt (zv 5) (zv 2)))).pt) (zv 5) (z_callR (ok_law_draw t tb) (hr.mono (by decide)) (by rfl) t.g__law_draw t.k__law_draw (bd_law_draw t) (pa_cons (pv 0) (za_cons (zv 2) (za_nil)))))) (zs_cons (z_set (i := 5) sc_law_rides.nd rfl (Or.inl rfl) (z_op zo_add (z_op zo_add (zv 8) (z_int)) (z_callR (ok_law_draw t tb) (hr.mono (by decide)) (by rfl) t.g__law_draw t.k__law_draw (bd_law_draw t) (pa_cons (pv 0) (za_cons (z_ifExp (zt_cmp zo_gt (z_op zo_sub (zv 2) (zv 8)) (z_int)) (z_ix (z_lst (za_cons (z_int) (za_cons (z_int) (za_cons (z_op zo_sub (zv 2) (zv 8)) (za_cons (z_op zo_sub (zv 2) (zv 8)) (za_nil)))))) (zv 7)) (z_int)) (za_nil)))))) (zs_cons (z_set (i := 5) sc_law_rides.nd rfl (Or.inl rfl) (z_callB (zc_min2 rfl) (by rfl) t.b_min (by decide +kernel) (za_cons (zv 5) (za_cons (zv 2) (za_nil))))) (zs_one (z_app rfl (ps_expr (pe_bm PySem.F.plainAttrs_list PySem.F.slot_list_append PySem.F.type_list_append mt_append (pv 4) (pa_cons (z_tup (za_cons (zv 6) (za_cons (z_ix (zv 3) (zv 8)) (za_cons (z_ix (zv 3) (zv 5)) (za_nil))))) pa_nil)))))))))) (zs_one (z_ret (z_callTy zc_tuple (by rfl) t.b_tuple (by decide +kernel) (za_cons (z_callB (zc_sorted hr.units) (by rfl) t.b_sorted (by decide +kernel) (za_cons (zv 4) (za_nil))) (za_nil)))))), fun _ _ _ h => rd_law_rides h⟩
theorem bd_law_other_fields (t : Tx P w K mg a) : Binds K a.d_law_other_fields [("_law_e" : Str)] [] := t.F_law_other_fields.binds fun _ _ _ _ _ _ us hl => match us, hl with | [_], _ => rfl
theorem okz_law_other_fields (t : Tx P w K mg a) (tb : TB2 base mg a) : FnZ P w K mg base 1 a.f_law_other_fields a.d_law_other_fields [("_law_e" : Str)] (fun a1 cls1 d1 => upSp K (TT a) (sp_law_other_fields K a.CLine a.XC a1 cls1 d1)) :=
 okPZ t.F_law_other_fields sc_law_other_fields (fun _ _ _ _ _ h => len_law_other_fields h) (by decide) fun cdv A outer s H E p cls d hp hr => ⟨ts_law_other_fields K a.CLine a.XC p.1 cls d, zs_cons (z_if (zt_val (z_callB (zc_isX hp) (by rfl) t.b_isinstance (by decide +kernel) (za_cons (zv 0) (za_cons (z_gc (by rfl) t.g_InvalidSeat) (za_nil))))) (zs_one (z_ret (z_lst (za_cons (z_xf hp (zv 0)) (za_nil))))) (zs_nil)) (zs_cons (z_if (zt_val (z_callB (zc_isX hp) (by rfl) t.b_isinstance (by decide +kernel) (za_cons (zv 0) (za_cons (z_gc (by rfl) t.g_InvalidNumber) (za_nil))))) (zs_one (z_ret (z_lst (za_cons (z_xf hp (zv 0)) (za_nil))))) (zs_nil)) (zs_cons (z_if (zt_val (z_callB (zc_isX hp) (by rfl) t.b_isinstance (by decide +kernel) (za_cons (zv 0) (za_cons (z_gc (by rfl) t.g_InvalidText) (za_nil))))) (zs_one (z_ret (z_lst (za_cons (z_xf hp (zv 0)) (za_nil))))) (zs_nil)) (zs_one (z_ret (z_ifExp (zt_val (z_callB (zc_isX hp) (by rfl) t.b_isinstance (by decide +kernel) (za_cons (zv 0) (za_cons (z_gc (by rfl) t.g_InvalidCommand) (za_nil))))) (z_lst (za_cons (z_xf hp (zv 0)) (za_nil))) (z_lst (za_nil))))))), fun _ _ h => rd_law_other_fields h⟩
theorem bd_law_fields (t : Tx P w K mg a) : Binds K a.d_law_fields [("_law_e" : Str)] [] := t.F_law_fields.binds fun _ _ _ _ _ _ us hl => match us, hl with | [_], _ => rfl
theorem okz_law_fields (t : Tx P w K mg a) (tb : TB2 base mg a) : FnZ P w K mg base 2 a.f_law_fields a.d_law_fields [("_law_e" : Str)] (fun a1 cls1 d1 => upSp K (TT a) (sp_law_fields K a.CLine a.XC a1 cls1 d1)) :=
 okPZ t.F_law_fields sc_law_fields (fun _ _ _ _ _ h => len_law_fields h) (by decide) fun cdv A outer s H E p cls d hp hr => ⟨ts_law_fields K a.CLine a.XC p.1 cls d, zs_cons (z_if (zt_val (z_callB (zc_isXT hp) (by rfl) t.b_isinstance (by decide +kernel) (za_cons (zv 0) (za_cons (z_tup (za_cons (z_gc (by rfl) t.g_InvalidTrips) (za_cons (z_gc (by rfl) t.g_InvalidPlan) (za_cons (z_gc (by rfl) t.g_InvalidFixed) (za_cons (z_gc (by rfl) t.g_InvalidExchange) (za_cons (z_gc (by rfl) t.g_InvalidAction) (za_nil))))))) (za_nil))))) (zs_one (z_ret (z_lst (za_cons (z_xf hp (zv 0)) (za_nil))))) (zs_nil)) (zs_cons (z_if (zt_val (z_callB (zc_isXT hp) (by rfl) t.b_isinstance (by decide +kernel) (za_cons (zv 0) (za_cons (z_tup (za_cons (z_gc (by rfl) t.g_TooManyTrips) (za_cons (z_gc (by rfl) t.g_TooManyPlans) (za_cons (z_gc (by rfl) t.g_TooManyEntries) (za_nil))))) (za_nil))))) (zs_one (z_ret (z_lst (za_cons (z_xf hp (zv 0)) (za_nil))))) (zs_nil)) (zs_cons (z_if (zt_val (z_callB (zc_isXT hp) (by rfl) t.b_isinstance (by decide +kernel) (za_cons (zv 0) (za_cons (z_tup (za_cons (z_gc (by rfl) t.g_InvalidName) (za_cons (z_gc (by rfl) t.g_NameTaken) (za_cons (z_gc (by rfl) t.g_NotFree) (za_nil))))) (za_nil))))) (zs_one (z_ret (z_lst (za_cons (z_xf hp (zv 0)) (za_nil))))) (zs_nil)) (zs_cons (z_if (zt_val (z_callB (zc_isXT hp) (by rfl) t.b_isinstance (by decide +kernel) (za_cons (zv 0) (za_cons (z_tup (za_cons (z_gc (by rfl) t.g_InvalidStation) (za_cons (z_gc (by rfl) t.g_Overfull) (za_cons (z_gc (by rfl) t.g_Full) (za_nil))))) (za_nil))))) (zs_one (z_ret (z_lst (za_cons (z_xf hp (zv 0)) (za_nil))))) (zs_nil)) (zs_cons (z_if (zt_val (z_callB (zc_isXT hp) (by rfl) t.b_isinstance (by decide +kernel) (za_cons (zv 0) (za_cons (z_tup (za_cons (z_gc (by rfl) t.g_InvalidSeats) (za_cons (z_gc (by rfl) t.g_NotALine) (za_nil)))) (za_nil))))) (zs_one (z_ret (z_lst (za_cons (z_xf hp (zv 0)) (za_nil))))) (zs_nil)) (zs_one (z_ret (z_callZ (okz_law_other_fields t tb) (hr.mono (by decide)) hp (by rfl) t.g__law_other_fields t.k__law_other_fields (bd_law_other_fields t) (za_cons (zv 0) (za_nil))))))))), fun _ _ h => rd_law_fields h⟩
theorem bd_law_kind (t : Tx P w K mg a) : Binds K a.d_law_kind [("_law_e" : Str)] [] := t.F_law_kind.binds fun _ _ _ _ _ _ us hl => match us, hl with | [_], _ => rfl
theorem okz_law_kind (t : Tx P w K mg a) (tb : TB2 base mg a) : FnZ P w K mg base 1 a.f_law_kind a.d_law_kind [("_law_e" : Str)] (fun a1 cls1 d1 => upSp K (TT a) (sp_law_kind K a.CLine a.XC a1 cls1 d1)) :=
 okPZ t.F_law_kind sc_law_kind (fun _ _ _ _ _ h => len_law_kind h) (by decide) fun cdv A outer s H E p cls d hp hr => ⟨ts_law_kind K a.CLine a.XC p.1 cls d, zs_cons (z_set (i := 1) sc_law_kind.nd rfl (Or.inl rfl) (z_lst (za_cons (z_callB (zc_isX hp) (by rfl) t.b_isinstance (by decide +kernel) (za_cons (zv 0) (za_cons (z_gc (by rfl) t.g_InvalidSeats) (za_nil)))) (za_cons (z_callB (zc_isX hp) (by rfl) t.b_isinstance (by decide +kernel) (za_cons (zv 0) (za_cons (z_gc (by rfl) t.g_InvalidTrips) (za_nil)))) (za_cons (z_callB (zc_isX hp) (by rfl) t.b_isinstance (by decide +kernel) (za_cons (zv 0) (za_cons (z_gc (by rfl) t.g_InvalidName) (za_nil)))) (za_nil)))))) (zs_cons (z_set (i := 1) sc_law_kind.nd rfl (Or.inl rfl) (z_op zo_add (zv 1) (z_lst (za_cons (z_callB (zc_isX hp) (by rfl) t.b_isinstance (by decide +kernel) (za_cons (zv 0) (za_cons (z_gc (by rfl) t.g_InvalidSeat) (za_nil)))) (za_cons (z_callB (zc_isX hp) (by rfl) t.b_isinstance (by decide +kernel) (za_cons (zv 0) (za_cons (z_gc (by rfl) t.g_InvalidStation) (za_nil)))) (za_cons (z_callB (zc_isX hp) (by rfl) t.b_isinstance (by decide +kernel) (za_cons (zv 0) (za_cons (z_gc (by rfl) t.g_InvalidPlan) (za_nil)))) (za_nil))))))) (zs_cons (z_set (i := 1) sc_law_kind.nd rfl (Or.inl rfl) (z_op zo_add (zv 1) (z_lst (za_cons (z_callB (zc_isX hp) (by rfl) t.b_isinstance (by decide +kernel) (za_cons (zv 0) (za_cons (z_gc (by rfl) t.g_InvalidFixed) (za_nil)))) (za_cons (z_callB (zc_isX hp) (by rfl) t.b_isinstance (by decide +kernel) (za_cons (zv 0) (za_cons (z_gc (by rfl) t.g_InvalidExchange) (za_nil)))) (za_cons (z_callB (zc_isX hp) (by rfl) t.b_isinstance (by decide +kernel) (za_cons (zv 0) (za_cons (z_gc (by rfl) t.g_InvalidNumber) (za_nil)))) (za_nil))))))) (zs_cons (z_set (i := 1) sc_law_kind.nd rfl (Or.inl rfl) (z_op zo_add (zv 1) (z_lst (za_cons (z_callB (zc_isX hp) (by rfl) t.b_isinstance (by decide +kernel) (za_cons (zv 0) (za_cons (z_gc (by rfl) t.g_InvalidText) (za_nil)))) (za_cons (z_callB (zc_isX hp) (by rfl) t.b_isinstance (by decide +kernel) (za_cons (zv 0) (za_cons (z_gc (by rfl) t.g_InvalidAction) (za_nil)))) (za_cons (z_callB (zc_isX hp) (by rfl) t.b_isinstance (by decide +kernel) (za_cons (zv 0) (za_cons (z_gc (by rfl) t.g_InvalidCommand) (za_nil)))) (za_nil))))))) (zs_cons (z_set (i := 1) sc_law_kind.nd rfl (Or.inl rfl) (z_op zo_add (zv 1) (z_lst (za_cons (z_callB (zc_isX hp) (by rfl) t.b_isinstance (by decide +kernel) (za_cons (zv 0) (za_cons (z_gc (by rfl) t.g_NotALine) (za_nil)))) (za_cons (z_callB (zc_isX hp) (by rfl) t.b_isinstance (by decide +kernel) (za_cons (zv 0) (za_cons (z_gc (by rfl) t.g_Overfull) (za_nil)))) (za_cons (z_callB (zc_isX hp) (by rfl) t.b_isinstance (by decide +kernel) (za_cons (zv 0) (za_cons (z_gc (by rfl) t.g_Full) (za_nil)))) (za_nil))))))) (zs_cons (z_set (i := 1) sc_law_kind.nd rfl (Or.inl rfl) (z_op zo_add (zv 1) (z_lst (za_cons (z_callB (zc_isX hp) (by rfl) t.b_isinstance (by decide +kernel) (za_cons (zv 0) (za_cons (z_gc (by rfl) t.g_NameTaken) (za_nil)))) (za_cons (z_callB (zc_isX hp) (by rfl) t.b_isinstance (by decide +kernel) (za_cons (zv 0) (za_cons (z_gc (by rfl) t.g_NotFree) (za_nil)))) (za_cons (z_callB (zc_isX hp) (by rfl) t.b_isinstance (by decide +kernel) (za_cons (zv 0) (za_cons (z_gc (by rfl) t.g_Busy) (za_nil)))) (za_nil))))))) (zs_cons (z_set (i := 1) sc_law_kind.nd rfl (Or.inl rfl) (z_op zo_add (zv 1) (z_lst (za_cons (z_callB (zc_isX hp) (by rfl) t.b_isinstance (by decide +kernel) (za_cons (zv 0) (za_cons (z_gc (by rfl) t.g_NothingToUndo) (za_nil)))) (za_cons (z_callB (zc_isX hp) (by rfl) t.b_isinstance (by decide +kernel) (za_cons (zv 0) (za_cons (z_gc (by rfl) t.g_TooManyTrips) (za_nil)))) (za_cons (z_callB (zc_isX hp) (by rfl) t.b_isinstance (by decide +kernel) (za_cons (zv 0) (za_cons (z_gc (by rfl) t.g_TooManyPlans) (za_nil)))) (za_nil))))))) (zs_cons (z_set (i := 1) sc_law_kind.nd rfl (Or.inl rfl) (z_op zo_add (zv 1) (z_lst (za_cons (z_callB (zc_isX hp) (by rfl) t.b_isinstance (by decide +kernel) (za_cons (zv 0) (za_cons (z_gc (by rfl) t.g_TooManyEntries) (za_nil)))) (za_nil))))) (zs_cons (z_set (i := 2) sc_law_kind.nd rfl (Or.inl rfl) (z_lst (za_cons (z_callB (zc_isX hp) (by rfl) t.b_isinstance (by decide +kernel) (za_cons (zv 0) (za_cons (z_gc (by rfl) t.g_SeatError) (za_nil)))) (za_cons (z_callB (zc_isX hp) (by rfl) t.b_isinstance (by decide +kernel) (za_cons (zv 0) (za_cons (z_gc (by rfl) t.g_StateError) (za_nil)))) (za_cons (z_callB (zc_isX hp) (by rfl) t.b_isinstance (by decide +kernel) (za_cons (zv 0) (za_cons (z_gc (by rfl) t.g_SizeError) (za_nil)))) (za_nil)))))) (zs_cons (z_set (i := 3) sc_law_kind.nd rfl (Or.inl rfl) (z_lst (za_cons (z_callB (zc_isX hp) (by rfl) t.b_isinstance (by decide +kernel) (za_cons (zv 0) (za_cons (z_ty (by rfl) t.b_ValueError (by decide +kernel)) (za_nil)))) (za_cons (z_callB (zc_isX hp) (by rfl) t.b_isinstance (by decide +kernel) (za_cons (zv 0) (za_cons (z_ty (by rfl) t.b_LookupError (by decide +kernel)) (za_nil)))) (za_cons (z_callB (zc_isX hp) (by rfl) t.b_isinstance (by decide +kernel) (za_cons (zv 0) (za_cons (z_ty (by rfl) t.b_ArithmeticError (by decide +kernel)) (za_nil)))) (za_nil)))))) (zs_cons (z_if (zt_cmp (zo_ne (Nat.lt_of_succ_lt (roomH65 hr))) (z_cntB rfl (pe_bm PySem.F.plainAttrs_list PySem.F.slot_list_count PySem.F.type_list_count mt_lcountB (zv 1) (pa_cons (z_bl) pa_nil))) (z_int)) (zs_one (z_ret (z_str))) (zs_nil)) (zs_cons (z_set (i := 4) sc_law_kind.nd rfl (Or.inl rfl) (z_idxD rfl (pe_bm PySem.F.plainAttrs_list PySem.F.slot_list_index PySem.F.type_list_index (mt_indexD (roomH65 hr)) (zv 1) (pa_cons (z_bl) pa_nil)))) (zs_cons (z_if ((zw_or (zt_cmp (zo_ne (Nat.lt_of_succ_lt (roomH65 hr))) (zv 2) (z_lst (za_cons (z_cmp zo_lt (zv 4) (z_int)) (za_cons (z_chain1 zo_lt zo_lt (z_int) (zv 4) (z_int)) (za_cons (z_cmp zo_gt (zv 4) (z_int)) (za_nil)))))) (zw_or1 (zt_cmp (zo_ne (Nat.lt_of_succ_lt (roomH65 hr))) (zv 3) (zv 2)))).pt) (zs_one (z_ret (z_str))) (zs_nil)) (zs_cons (z_set (i := 5) sc_law_kind.nd rfl (Or.inl rfl) (z_str)) (zs_cons (z_set (i := 5) sc_law_kind.nd rfl (Or.inl rfl) (z_op zo_add (zv 5) (z_str))) (zs_one (z_ret (z_ix (z_split rfl (pe_split (zv 5) (z_str))) (zv 4)))))))))))))))))), fun _ _ h => rd_law_kind h⟩
theorem bd_law_caught (t : Tx P w K mg a) : Binds K a.d_law_caught [("_law_call" : Str)] [] := t.F_law_caught.binds fun _ _ _ _ _ _ us hl => match us, hl with | [_], _ => rfl
def suiteOf_law_caught : List Stmt → List Stmt
 | [.Try _ (.ExceptHandler _ _ bd _ :: _) _ _ _] => bd
 | _ => []
theorem su_law_caught (t : Tx P w K mg a) (tb : TB2 base mg a) {cdv : Value} {A : Around} {outer : List Env} {s : Shared} {H : Hp} (hr : Room 10 (A.deeper (envOfC "_law_caught" (defScope s_law_caught) s.heap.objs.size a.f_law_caught cdv))) {e : Addr} {oe : Obj} {cls : Value} {d : Option Addr} {pn : List (Addr × Obj)} (hz : L2.Zc cls d oe) (hf : ∃ vs, oe.data = .fields vs) :
  PSs ((cxOf CX0 P w K mg base N_law_caught "_law_caught" (defScope s_law_caught) a.f_law_caught cdv A outer s H E0).nox.suite e ((e, oe) :: pn)) (suiteOf_law_caught (defBody s_law_caught)) (upS K (TT a) (ts_law_caught K a.CLine a.XC e cls d)) :=
 zs_one (z_ret (z_op zo_add (z_lst (za_cons (z_callZ (okz_law_kind t tb) (roomH_mark (hr.mono (by decide))) (pinX_suiteC hz hf) (by rfl) t.g__law_kind t.k__law_kind (bd_law_kind t) (za_cons (zv 1) (za_nil))) (za_nil))) (z_callZ (okz_law_fields t tb) (roomH_mark (hr.mono (by decide))) (pinX_suiteC hz hf) (by rfl) t.g__law_fields t.k__law_fields (bd_law_fields t) (za_cons (zv 1) (za_nil)))))
theorem bd_law_refused (t : Tx P w K mg a) : Binds K a.d_law_refused [("_law_matter" : Str)] [] := t.F_law_refused.fn.binds fun _ _ _ _ _ _ us hl => match us, hl with | [_], _ => rfl
theorem ok_law_refused (t : Tx P w K mg a) (tb : TB2 base mg a) : FnG P w K mg base 12 a.f_law_refused a.d_law_refused [("_law_matter" : Str)] (upSp K (TT a) (sp_law_refused K a.CLine a.XC)) :=
 okGPC t.F_law_refused sc_law_refused (fun _ _ h => len_law_refused h) (by decide) fun A outer s H E hG hr => ⟨ts_law_refused K a.CLine a.XC, zs_cons (z_set (i := 1) sc_law_refused.nd rfl (Or.inl rfl) (z_caught t.F_law_caught sc_law_caught rfl rfl rfl (bd_law_caught t) (by rfl) t.g__law_caught t.k__law_caught (fun _ _ _ => (.cons ⟨rfl, rfl, .inl t.g_SeatError⟩ (.cons ⟨rfl, rfl, .inl t.g_StateError⟩ (.cons ⟨rfl, rfl, .inl t.g_SizeError⟩ .nil)))) L2N.tupM3 (by simp) (fun cdv s H hr e oe cls d pn hz hf => su_law_caught t tb hr hz hf) tb.t2 rfl (TT_mem_t2 a) (TT_one_t2 t) (hr.mono (by decide)) (LamX.lamS_by (show LamX.lamSB (defScope s_law_refused) _ = true by decide +kernel)) rfl (fun _ _ _ _ _ => rfl) (fun A outer s H E f c' hr1 => zx_cmeth (z_gc (by rfl) t.g_Line) t.cr t.cm_read (okx_Line_readE t tb) (bd_Line_readE t) L2T.lam_takes (hr1.mono (by decide)) (za_cons (zv 0) (za_nil))))) (zs_one (z_ret (z_and (z_cmp zo_eqI (z_ix (zv 1) (z_int)) (z_str)) (z_and (z_eit (z_eit (z_cmpO t.ow (op_eqO (ok_Line_eq t tb) (hr.mono (by decide)) t.ow (bd_Line_eq t)) (z_ix (zv 1) (z_int)) (zv 0)) (z_cmp (zo_eqD0 (Nat.lt_of_le_of_lt (Nat.le_add_right _ _) hr.units)) (z_ix (zv 1) (z_int)) (zv 0))) (z_cmp (zo_eq hr.units) (z_ix (zv 1) (z_int)) (zv 0))) (z_one (z_cmp zo_eqI (z_callB zc_len (by rfl) t.b_len (by decide +kernel) (za_cons (zv 1) (za_nil))) (z_int))))))), fun _ _ h => rd_law_refused h⟩
theorem bd_law_shows (t : Tx P w K mg a) : Binds K a.d_law_shows [("_law_made" : Str)] [] := t.F_law_shows.binds fun _ _ _ _ _ _ us hl => match us, hl with | [_], _ => rfl
theorem ok_law_shows (t : Tx P w K mg a) (tb : TB2 base mg a) : FnG P w K mg base 9 a.f_law_shows a.d_law_shows [("_law_made" : Str)] (upSp K (TT a) (sp_law_shows K a.CLine)) :=
 okGP t.F_law_shows sc_law_shows (fun _ _ h => len_law_shows h) (by decide) fun cdv A outer s H E hG hr => ⟨ts_law_shows K a.CLine, zs_cons (z_set (i := 1) sc_law_shows.nd rfl (Or.inl rfl) (z_lst (za_cons (z_prop (zv 0) t.cl t.p_capacity (ok_Line_capacity t tb) (hr.mono (by decide)) (bd_Line_capacity t)) (za_cons (z_prop (zv 0) t.cl t.p_trips (ok_Line_trips t tb) (hr.mono (by decide)) (bd_Line_trips t)) (za_cons (z_prop (zv 0) t.cl t.p_order (ok_Line_order t tb) (hr.mono (by decide)) (bd_Line_order t)) (za_cons (z_prop (zv 0) t.cl t.p_peak (ok_Line_peak t tb) (hr.mono (by decide)) (bd_Line_peak t)) (za_cons (z_lenO t.ow (call_lenO (ok_Line_len t tb) (hr.mono (by decide)) t.ow (bd_Line_len t)) (by rfl) t.b_len (by decide +kernel) (za_cons (zv 0) (za_nil))) (za_cons (z_boolO t.ow (call_boolO (ok_Line_len t tb) (hr.mono (by decide)) t.ow (bd_Line_len t)) (by rfl) t.b_bool (by decide +kernel) (za_cons (zv 0) (za_nil))) (za_cons (z_strO t.ow (call_strO (ok_Line_strB t tb) (hr.mono (by decide)) t.ow (bd_Line_strB t)) (by rfl) t.b_str (by decide +kernel) (za_cons (zv 0) (za_nil))) (za_cons (z_reprO (call_reprO (ok_Line_reprB t tb) (hr.mono (by decide)) t.rp t.rpf (bd_Line_reprB t)) (by rfl) t.b_repr (by decide +kernel) (za_cons (zv 0) (za_nil))) (za_nil))))))))))) (zs_one (z_ret (z_callB (zc_repr hG hr.units) (by rfl) t.b_repr (by decide +kernel) (za_cons (z_op zo_add (zv 1) (z_lst (za_cons (z_listW (zv 0) t.cl t.m_walk (gfn_Line_walk t) (hr.mono (by decide)) (bd_Line_walk t) (by rfl) t.b_list (by decide +kernel)) (za_cons (z_methP (fun _ _ => .nil) (pe_meth (zv 0) t.cl t.m_load (ok_Line_load t tb) (hr.mono (by decide)) (bd_Line_load t) .nil pass0 (za_cons (z_int) (za_nil)))) (za_cons (z_methP (fun _ _ => .nil) (pe_meth (zv 0) t.cl t.m_load (ok_Line_load t tb) (hr.mono (by decide)) (bd_Line_load t) .nil pass0 (za_cons (z_int) (za_nil)))) (za_nil)))))) (za_nil))))), fun _ _ h => rd_law_shows h⟩
theorem bd_law_words (t : Tx P w K mg a) : Binds K a.d_law_words [("_law_pool_here" : Str), ("_law_many" : Str)] [] := t.F_law_words.binds fun _ _ _ _ _ _ us hl => match us, hl with | [_, _], _ => rfl
theorem ok_law_words (t : Tx P w K mg a) (tb : TB2 base mg a) : FnOk P w K mg base CX0 2 a.f_law_words a.d_law_words [("_law_pool_here" : Str), ("_law_many" : Str)] (upSpR K (TT a) (sp_law_words K a.CLine)) :=
 okR (nm := ("_law_pool_here" : Str)) (N := [("_law_many" : Str), ("_law_letters" : Str), ("_law_menu" : Str), ("_law_way" : Str), ("_law_begin" : Str), ("_law_stem" : Str), ("_law_at" : Str), ("_law_k" : Str)]) (ps := [("_law_many" : Str)]) t.F_law_words sc_law_words (fun _ _ _ h => len_law_words h) (by decide) fun cdv A outer s H E hr => ⟨ts_law_words K a.CLine, zs_cons (z_set (i := 2) sc_law_words.nd rfl (Or.inr rfl) (z_str)) (zs_cons (z_set (i := 3) sc_law_words.nd rfl (Or.inr rfl) (z_lst (za_cons (z_str) (za_cons (z_str) (za_cons (z_str) (za_cons (z_str) (za_cons (z_str) (za_cons (z_str) (za_cons (z_str) (za_cons (z_str) (za_cons (z_str) (za_cons (z_str) (za_cons (z_str) (za_cons (z_str) (za_nil))))))))))))))) (zs_cons (z_set (i := 3) sc_law_words.nd rfl (Or.inr rfl) (z_op zo_add (zv 3) (z_lst (za_cons (z_str) (za_cons (z_str) (za_cons (z_str) (za_cons (z_str) (za_cons (z_str) (za_cons (z_str) (za_cons (z_str) (za_cons (z_str) (za_cons (z_str) (za_cons (z_str) (za_cons (z_str) (za_cons (z_str) (za_nil)))))))))))))))) (zs_cons (z_asg (z_tup (za_cons (z_callR (ok_law_draw t tb) (hr.mono (by decide)) (by rfl) t.g__law_draw t.k__law_draw (bd_law_draw t) (pa_cons (pv 0) (za_cons (z_int) (za_nil)))) (za_cons (z_callR (ok_law_draw t tb) (hr.mono (by decide)) (by rfl) t.g__law_draw t.k__law_draw (bd_law_draw t) (pa_cons (pv 0) (za_cons (z_int) (za_nil)))) (za_nil)))) (zg_tup (pg_tup rfl (zgs_cons1 (zg_name (i := 4) sc_law_words.nd rfl (Or.inl rfl)) (zgs_cons1 (zg_name (i := 5) sc_law_words.nd rfl (Or.inr rfl)) (zgs_nil)))))) (zs_cons (z_if (zt_cmp (zo_eq hr.units) (zv 4) (z_int)) (zs_one (z_ret (z_val (zf_lc (own := [(("_law_k" : Str), 8)]) (pe_lc (own := [(("_law_k" : Str), 8)]) rfl sc_law_words.nd (zi_range1 (by rfl) t.b_range (zv 1)) (blkOk_by (own := [(("_law_k" : Str), 8)]) (N := N_law_words) (sc := defScope s_law_words) (by decide +kernel)) (fun _ _ _ _ _ => zgw_name (by decide) (pg_name (i := 8) sc_law_words.nd rfl (Or.inl rfl))) (fun _ _ _ _ _ => zts_nil) (fun _ _ _ _ _ => z_ix (zv 3) (z_op zo_mod (z_op zo_add (zv 5) (z_op zo_mulA (z_int) (zv 8))) (z_int)))))))) (zs_nil)) (zs_cons (z_if (zt_cmp (zo_eq hr.units) (zv 4) (z_int)) (zs_one (z_ret (z_val (zf_lc (own := [(("_law_k" : Str), 8)]) (pe_lc (own := [(("_law_k" : Str), 8)]) rfl sc_law_words.nd (zi_range1 (by rfl) t.b_range (zv 1)) (blkOk_by (own := [(("_law_k" : Str), 8)]) (N := N_law_words) (sc := defScope s_law_words) (by decide +kernel)) (fun _ _ _ _ _ => zgw_name (by decide) (pg_name (i := 8) sc_law_words.nd rfl (Or.inl rfl))) (fun _ _ _ _ _ => zts_nil) (fun _ _ _ _ _ => z_op zo_mulA (z_ix (zv 2) (z_op zo_mod (z_op zo_add (zv 5) (z_op zo_mulA (z_int) (zv 8))) (z_int))) (z_op zo_add (z_int) (z_op zo_mod (zv 8) (z_int))))))))) (zs_nil)) (zs_cons (z_set (i := 6) sc_law_words.nd rfl (Or.inr rfl) (z_join rfl (pe_join (z_str) (z_val (zf_lc (own := [(("_law_k" : Str), 8)]) (pe_lc (own := [(("_law_k" : Str), 8)]) rfl sc_law_words.nd (zi_range1 (by rfl) t.b_range (z_callR (ok_law_draw t tb) (hr.mono (by decide)) (by rfl) t.g__law_draw t.k__law_draw (bd_law_draw t) (pa_cons (pv 0) (za_cons (z_int) (za_nil))))) (blkOk_by (own := [(("_law_k" : Str), 8)]) (N := N_law_words) (sc := defScope s_law_words) (by decide +kernel)) (fun _ _ _ _ _ => zgw_name (by decide) (pg_name (i := 8) sc_law_words.nd rfl (Or.inl rfl))) (fun _ _ _ _ _ => zts_nil) (fun _ _ _ _ _ => z_ix (zv 2) (z_callR (ok_law_draw t tb) (hr.mono (by decide)) (by rfl) t.g__law_draw t.k__law_draw (bd_law_draw t) (pa_cons (pv 0) (za_cons (z_int) (za_nil))))))))))) (zs_cons (z_set (i := 7) sc_law_words.nd rfl (Or.inr rfl) (z_callR (ok_law_draw t tb) (hr.mono (by decide)) (by rfl) t.g__law_draw t.k__law_draw (bd_law_draw t) (pa_cons (pv 0) (za_cons (z_op zo_add (z_callB zc_len (by rfl) t.b_len (by decide +kernel) (za_cons (zv 6) (za_nil))) (z_int)) (za_nil))))) (zs_one (z_ret (z_val (zf_lc (own := [(("_law_k" : Str), 8)]) (pe_lc (own := [(("_law_k" : Str), 8)]) rfl sc_law_words.nd (zi_range1 (by rfl) t.b_range (zv 1)) (blkOk_by (own := [(("_law_k" : Str), 8)]) (N := N_law_words) (sc := defScope s_law_words) (by decide +kernel)) (fun _ _ _ _ _ => zgw_name (by decide) (pg_name (i := 8) sc_law_words.nd rfl (Or.inl rfl))) (fun _ _ _ _ _ => zts_nil) (fun _ _ _ _ _ => z_op zo_add (z_op zo_add (z_slice (zv 6) (zp_none) (zp_some (zv 7))) (z_ix (zv 2) (z_op zo_mod (z_op zo_add (zv 5) (z_op zo_mulA (z_int) (zv 8))) (z_int)))) (z_slice (zv 6) (zp_some (zv 7)) (zp_none))))))))))))))), fun _ _ _ h => rd_law_words h⟩
theorem bd_law_right4 (t : Tx P w K mg a) : Binds K a.d_law_right4 [("_law_pool_here" : Str)] [] := t.F_law_right4.binds fun _ _ _ _ _ _ us hl => match us, hl with | [_], _ => rfl
theorem ok_law_right4 (t : Tx P w K mg a) (tb : TB2 base mg a) : FnG P w K mg base 13 a.f_law_right4 a.d_law_right4 [("_law_pool_here" : Str)] (upSpR K (TT a) (sp_law_right4 K a.CLine a.XC)) :=
 okGR (nm := ("_law_pool_here" : Str)) (N := [("_law_width" : Str), ("_law_words_here" : Str), ("_law_rides_here" : Str), ("_law_made" : Str), ("_law_row" : Str), ("_law_things" : Str), ("_law_later" : Str), ("_law_matter" : Str), ("_law_each" : Str)]) (ps := []) t.F_law_right4 sc_law_right4 (fun _ _ _ h => len_law_right4 h) (by decide) fun cdv A outer s H E hG hr => ⟨ts_law_right4 K a.CLine a.XC, zs_cons (z_par2 (i := 1) (j := 2) rfl (ps_par (i := 1) (j := 2) rfl sc_law_right4.nd rfl rfl (by decide) rfl rfl (zr_v (z_op zo_add (z_int) (z_callR (ok_law_draw t tb) (hr.mono (by decide)) (by rfl) t.g__law_draw t.k__law_draw (bd_law_draw t) (pa_cons (pv 0) (za_cons (z_int) (za_nil))))) (zr_v (z_callR (ok_law_words t tb) (hr.mono (by decide)) (by rfl) t.g__law_words t.k__law_words (bd_law_words t) (pa_cons (pv 0) (za_cons (z_callR (ok_law_draw t tb) (hr.mono (by decide)) (by rfl) t.g__law_draw t.k__law_draw (bd_law_draw t) (pa_cons (pv 0) (za_cons (z_int) (za_nil)))) (za_nil)))) (zr_nil))) (by rfl))) (zs_cons (z_set (i := 3) sc_law_right4.nd rfl (Or.inl rfl) (z_callR (ok_law_rides t tb) (hr.mono (by decide)) (by rfl) t.g__law_rides t.k__law_rides (bd_law_rides t) (pa_cons (pv 0) (za_cons (zv 2) (za_cons (z_int) (za_nil)))))) (zs_cons (z_set (i := 4) sc_law_right4.nd rfl (Or.inr rfl) (z_nox (zx_new t.mkL (okx_Line_initX t tb) L2N.takes0 (hr.mono (by decide)) (by rfl) t.g_Line (bd_Line_initX t) .nil (fun _ _ => .nil) (za_cons (zv 1) (za_cons (zv 3) (za_nil)))))) (zs_cons (z_set (i := 5) sc_law_right4.nd rfl (Or.inl rfl) (z_strO t.ow (call_strO (ok_Line_strB t tb) (hr.mono (by decide)) t.ow (bd_Line_strB t)) (by rfl) t.b_str (by decide +kernel) (za_cons (zv 4) (za_nil)))) (zs_cons (z_set (i := 6) sc_law_right4.nd rfl (Or.inl rfl) (z_lst (za_cons (z_non) (za_cons (z_int) (za_cons (z_int) (za_cons (z_bl) (za_cons (z_tup (za_nil)) (za_cons (z_lst (za_nil)) (za_cons (z_dic0) (za_cons (zv 3) (za_cons (zv 4) (za_cons (z_tup (za_cons (zv 5) (za_nil))) (za_cons (z_lst (za_cons (zv 5) (za_nil))) (za_cons (z_tup (za_cons (zv 1) (za_cons (zv 3) (za_nil)))) (za_cons (z_op zo_pow (z_int) (z_int)) (za_cons (zv 2) (za_nil))))))))))))))))) (zs_cons (z_if (zt_not (zt_val (z_callB (zc_all rfl) (by rfl) t.b_all (by decide +kernel) (za_cons (z_val (zf_lc (own := [(("_law_matter" : Str), 8)]) (pe_lc (own := [(("_law_matter" : Str), 8)]) rfl sc_law_right4.nd (zi_list (z_op zo_add (zv 6) (z_lst (za_cons (z_op zo_add (zv 5) (z_str)) (za_cons (z_op zo_add (z_str) (zv 5)) (za_cons (z_op zo_add (z_str) (zv 5)) (za_cons (z_op zo_add (zv 5) (z_str)) (za_cons (z_op zo_add (zv 5) (z_str)) (za_nil))))))))) (blkOk_by (own := [(("_law_matter" : Str), 8)]) (N := N_law_right4) (sc := defScope s_law_right4) (by decide +kernel)) (fun _ _ _ _ _ => zgw_name (by decide) (pg_name (i := 8) sc_law_right4.nd rfl (Or.inl rfl))) (fun _ _ _ _ _ => zts_nil) (fun _ _ _ _ _ => z_callG (ok_law_refused t tb) hG (hr.mono (by decide)) (by rfl) t.g__law_refused t.k__law_refused (bd_law_refused t) .nil (fun _ _ => .nil) (za_cons (zv 8) (za_nil)))))) (za_nil))))) (zs_one (z_ret (z_bl))) (zs_nil)) (zs_cons (z_setF (i := 7) sc_law_right4.nd rfl (Or.inl rfl) (zf_lst (za_cons (z_nox (zx_cmeth (E := fun _ _ _ => False) (z_gc (by rfl) t.g_Line) t.cr t.cm_read (okx_Line_readE t tb) (bd_Line_readE t) LamX.takes0 (hr.mono (by decide)) (za_cons (zv 5) (za_nil)))) (za_cons (z_nox (zx_new t.mkL (okx_Line_initX t tb) L2N.takes0 (hr.mono (by decide)) (by rfl) t.g_Line (bd_Line_initX t) .nil (fun _ _ => .nil) (za_cons (zv 1) (za_cons (z_prop (zv 4) t.cl t.p_trips (ok_Line_trips t tb) (hr.mono (by decide)) (bd_Line_trips t)) (za_nil))))) (za_cons (z_nox (zx_imeth (E := fun _ _ _ => False) (zv 4) t.ci_read (okx_Line_readE t tb) (bd_Line_readE t) LamX.takes0 (hr.mono (by decide)) (za_cons (zv 5) (za_nil)))) (za_cons (z_nox (zx_cmeth (E := fun _ _ _ => False) (z_gc (by rfl) t.g_Line) t.cr t.cm_read (okx_Line_readE t tb) (bd_Line_readE t) LamX.takes0 (hr.mono (by decide)) (za_cons (z_strO t.ow (call_strO (ok_Line_strB t tb) (hr.mono (by decide)) t.ow (bd_Line_strB t)) (by rfl) t.b_str (by decide +kernel) (za_cons (z_nox (zx_cmeth (E := fun _ _ _ => False) (z_gc (by rfl) t.g_Line) t.cr t.cm_read (okx_Line_readE t tb) (bd_Line_readE t) LamX.takes0 (hr.mono (by decide)) (za_cons (zv 5) (za_nil)))) (za_nil))) (za_nil)))) (za_nil))))))) (zs_cons (z_app rfl (ps_expr (pe_bm PySem.F.plainAttrs_list PySem.F.slot_list_append PySem.F.type_list_append mt_append (pv 7) (pa_cons (z_newKX (ks := [("trips" : Str), ("seats" : Str)]) (perm := fun zs => zs.reverse) (permV := fun zs => zs.reverse) t.mkL (okx_Line_initX t tb) (hr.mono (by decide)) (by rfl) t.g_Line (kb_trips_seats t).choose_spec (fun _ r => reps_rev r) (zk_cons (z_prop (z_nox (zx_cmeth (E := fun _ _ _ => False) (z_gc (by rfl) t.g_Line) t.cr t.cm_read (okx_Line_readE t tb) (bd_Line_readE t) LamX.takes0 (hr.mono (by decide)) (za_cons (zv 5) (za_nil)))) t.cl t.p_trips (ok_Line_trips t tb) (hr.mono (by decide)) (bd_Line_trips t)) (zk_cons (z_prop (z_nox (zx_cmeth (E := fun _ _ _ => False) (z_gc (by rfl) t.g_Line) t.cr t.cm_read (okx_Line_readE t tb) (bd_Line_readE t) LamX.takes0 (hr.mono (by decide)) (za_cons (zv 5) (za_nil)))) t.cl t.p_capacity (ok_Line_capacity t tb) (hr.mono (by decide)) (bd_Line_capacity t)) (zk_nil)))) pa_nil)))) (zs_one (z_ret (z_callB (zc_all rfl) (by rfl) t.b_all (by decide +kernel) (za_cons (z_val (zf_lc (own := [(("_law_each" : Str), 9)]) (pe_lc (own := [(("_law_each" : Str), 9)]) rfl sc_law_right4.nd (zi_list (zv 7)) (blkOk_by (own := [(("_law_each" : Str), 9)]) (N := N_law_right4) (sc := defScope s_law_right4) (by decide +kernel)) (fun _ _ _ _ _ => zgw_name (by decide) (pg_name (i := 9) sc_law_right4.nd rfl (Or.inl rfl))) (fun _ _ _ _ _ => zts_nil) (fun _ _ _ _ _ => z_and (z_cmp zo_eqI (z_callG (ok_law_shows t tb) hG (hr.mono (by decide)) (by rfl) t.g__law_shows t.k__law_shows (bd_law_shows t) .nil (fun _ _ => .nil) (za_cons (zv 9) (za_nil))) (z_callG (ok_law_shows t tb) hG (hr.mono (by decide)) (by rfl) t.g__law_shows t.k__law_shows (bd_law_shows t) .nil (fun _ _ => .nil) (za_cons (zv 4) (za_nil)))) (z_one (z_cmpO t.ow (op_eqO (ok_Line_eq t tb) (hr.mono (by decide)) t.ow (bd_Line_eq t)) (zv 9) (zv 4))))))) (za_nil)))))))))))), fun _ _ _ h => rd_law_right4 h⟩
theorem ok_law4 (t : Tx P w K mg a) (tb : TB2 base mg a) : FnG P w K mg base 14 a.f_law4 a.d_law4 [("_law_script" : Str)] (upSp K (TT a) (sp_law4 K a.CLine a.XC)) :=
 okGP t.F_law4 sc_law4 (fun _ _ h => len_law4 h) (by decide) fun cdv A outer s H E hG hr => ⟨ts_law4 K a.CLine a.XC, zs_one (z_ret (z_callB (zc_all rfl) (by rfl) t.b_all (by decide +kernel) (za_cons (z_val (zf_lc (own := [(("_law_k" : Str), 1)]) (pe_lc (own := [(("_law_k" : Str), 1)]) rfl sc_law4.nd (zi_range1 (by rfl) t.b_range (z_callB (zc_max2 rfl) (by rfl) t.b_max (by decide +kernel) (za_cons (z_int) (za_cons (z_callB (zc_min2 rfl) (by rfl) t.b_min (by decide +kernel) (za_cons (z_callB zc_len (by rfl) t.b_len (by decide +kernel) (za_cons (zv 0) (za_nil))) (za_cons (z_int) (za_nil)))) (za_nil))))) (blkOk_by (own := [(("_law_k" : Str), 1)]) (N := N_law4) (sc := defScope s_law4) (by decide +kernel)) (fun _ _ _ _ _ => zgw_name (by decide) (pg_name (i := 1) sc_law4.nd rfl (Or.inl rfl))) (fun _ _ _ _ _ => zts_nil) (fun _ _ _ _ _ => z_callRFG (ok_law_right4 t tb) hG (hr.mono (by decide)) (by rfl) t.g__law_right t.k__law_right (bd_law_right4 t) (pa_cons (z_callF (ok_law_pool t tb) (hr.mono (by decide)) (by rfl) t.g__law_pool t.k__law_pool (bd_law_pool t) (za_cons (z_call (ok_law_cell t tb) (hr.mono (by decide)) (by rfl) t.g__law_cell t.k__law_cell (bd_law_cell t) .nil (fun _ _ => .nil) (za_cons (zv 0) (za_cons (zv 1) (za_nil)))) (za_nil))) (za_nil)))))) (za_nil)))), fun _ _ h => rd_law4 h⟩
end
end ZK
namespace ZK
open PySem PySem.Spec L2 Z
open PyProof.Rows hiding St
theorem law_mk {l : PySem.W.OpenLaw} {w : World} {K : PySem.W.Frag} {h : Heap} {mg : Str → Option Value} {fa CLine cL tL eL qT qC TD cT tT qc_read q_order q_peak C_Busy C_Full C_InvalidAction C_InvalidCommand C_InvalidExchange C_InvalidFixed C_InvalidName C_InvalidNumber C_InvalidPlan C_InvalidSeat C_InvalidSeats C_InvalidStation C_InvalidText C_InvalidTrips C_NameTaken C_NotALine C_NotFree C_NothingToUndo C_Overfull C_SeatError C_SizeError C_StateError C_TooManyEntries C_TooManyPlans C_TooManyTrips fX_InvalidSeats cc_InvalidSeats cda_InvalidSeats fX_InvalidText cc_InvalidText cda_InvalidText fX_InvalidTrips cc_InvalidTrips cda_InvalidTrips f_law_cell f_law_pool f_is_integer f_check_seatsX f_is_later f_is_station f_is_trip_name f_is_tripE f_valid_beginningE f_Line_capacity f_Line_trips f_Line_len f_Line_eq f_Line_strB f_Line_reprB f_Line_initX f_load_of f_Line_order f_Line_peak f_Line_walk f_Line_load f_number_written f_trip_written f_Line_readE f_law_draw f_law_far f_law_rides f_law_other_fields f_law_fields f_law_kind f_law_caught f_law_refused f_law_shows f_law_words f_law_right4 f_law4 : Addr} {mL : Value} {rT : List Value} {rC : List Value}
  {r_order : List Value} {r_peak : List Value} {rM_read : List Value} {ocX_InvalidSeats kVX_InvalidSeats dcX_InvalidSeats pmX_InvalidSeats ctX_InvalidSeats clX_InvalidSeats cclX_InvalidSeats : Value} {odX_InvalidSeats anX_InvalidSeats cldX_InvalidSeats cddX_InvalidSeats : Option Addr} {slX_InvalidSeats csX_InvalidSeats ccX_InvalidSeats : Array (Option Value)} {vsX_InvalidSeats : Array Value} {fileX_InvalidSeats : Str} {tfX_InvalidSeats : Tok} {ocX_InvalidText kVX_InvalidText dcX_InvalidText pmX_InvalidText ctX_InvalidText clX_InvalidText cclX_InvalidText : Value} {odX_InvalidText anX_InvalidText cldX_InvalidText cddX_InvalidText : Option Addr} {slX_InvalidText csX_InvalidText ccX_InvalidText : Array (Option Value)} {vsX_InvalidText : Array Value} {fileX_InvalidText : Str} {tfX_InvalidText : Tok} {ocX_InvalidTrips kVX_InvalidTrips dcX_InvalidTrips pmX_InvalidTrips ctX_InvalidTrips clX_InvalidTrips cclX_InvalidTrips : Value} {odX_InvalidTrips anX_InvalidTrips cldX_InvalidTrips cddX_InvalidTrips : Option Addr} {slX_InvalidTrips csX_InvalidTrips ccX_InvalidTrips : Array (Option Value)} {vsX_InvalidTrips : Array Value} {fileX_InvalidTrips : Str} {tfX_InvalidTrips : Tok} {oc_law_cell kV_law_cell dc_law_cell pm_law_cell cd_law_cell ct_law_cell : Value} {od_law_cell an_law_cell : Option Addr} {sl_law_cell : Array (Option Value)} {oc_law_pool kV_law_pool dc_law_pool pm_law_pool cd_law_pool ct_law_pool : Value} {od_law_pool an_law_pool : Option Addr} {sl_law_pool : Array (Option Value)} {oc_is_integer kV_is_integer dc_is_integer pm_is_integer cd_is_integer ct_is_integer : Value} {od_is_integer an_is_integer : Option Addr} {sl_is_integer : Array (Option Value)} {oc_check_seatsX kV_check_seatsX dc_check_seatsX pm_check_seatsX cd_check_seatsX ct_check_seatsX : Value} {od_check_seatsX an_check_seatsX : Option Addr} {sl_check_seatsX : Array (Option Value)} {oc_is_later kV_is_later dc_is_later pm_is_later cd_is_later ct_is_later : Value} {od_is_later an_is_later : Option Addr} {sl_is_later : Array (Option Value)} {oc_is_station kV_is_station dc_is_station pm_is_station cd_is_station ct_is_station : Value} {od_is_station an_is_station : Option Addr} {sl_is_station : Array (Option Value)} {oc_is_trip_name kV_is_trip_name dc_is_trip_name pm_is_trip_name cd_is_trip_name ct_is_trip_name : Value} {od_is_trip_name an_is_trip_name : Option Addr} {sl_is_trip_name : Array (Option Value)} {oc_is_tripE kV_is_tripE dc_is_tripE pm_is_tripE cd_is_tripE ct_is_tripE : Value} {od_is_tripE an_is_tripE : Option Addr} {sl_is_tripE : Array (Option Value)} {oc_valid_beginningE kV_valid_beginningE dc_valid_beginningE pm_valid_beginningE cd_valid_beginningE ct_valid_beginningE : Value} {od_valid_beginningE an_valid_beginningE : Option Addr} {sl_valid_beginningE : Array (Option Value)} {oc_Line_capacity kV_Line_capacity dc_Line_capacity pm_Line_capacity cd_Line_capacity ct_Line_capacity : Value} {od_Line_capacity an_Line_capacity : Option Addr} {sl_Line_capacity : Array (Option Value)} {oc_Line_trips kV_Line_trips dc_Line_trips pm_Line_trips cd_Line_trips ct_Line_trips : Value} {od_Line_trips an_Line_trips : Option Addr} {sl_Line_trips : Array (Option Value)} {oc_Line_len kV_Line_len dc_Line_len pm_Line_len cd_Line_len ct_Line_len : Value} {od_Line_len an_Line_len : Option Addr} {sl_Line_len : Array (Option Value)} {oc_Line_eq kV_Line_eq dc_Line_eq pm_Line_eq cd_Line_eq ct_Line_eq : Value} {od_Line_eq an_Line_eq : Option Addr} {sl_Line_eq : Array (Option Value)} {oc_Line_strB kV_Line_strB dc_Line_strB pm_Line_strB cd_Line_strB ct_Line_strB : Value} {od_Line_strB an_Line_strB : Option Addr} {sl_Line_strB : Array (Option Value)} {oc_Line_reprB kV_Line_reprB dc_Line_reprB pm_Line_reprB cd_Line_reprB ct_Line_reprB : Value} {od_Line_reprB an_Line_reprB : Option Addr} {sl_Line_reprB : Array (Option Value)} {oc_Line_initX kV_Line_initX dc_Line_initX pm_Line_initX  ct_Line_initX : Value} {od_Line_initX an_Line_initX : Option Addr} {sl_Line_initX : Array (Option Value)} {oTD oEL oCL : Option Addr} {nTD nEL : Nat} {slT slE slC : Array (Option Value)} {cvs : Array Value} {oc_load_of kV_load_of dc_load_of pm_load_of cd_load_of ct_load_of : Value} {od_load_of an_load_of : Option Addr} {sl_load_of : Array (Option Value)} {oc_Line_order kV_Line_order dc_Line_order pm_Line_order cd_Line_order ct_Line_order : Value} {od_Line_order an_Line_order : Option Addr} {sl_Line_order : Array (Option Value)} {oc_Line_peak kV_Line_peak dc_Line_peak pm_Line_peak cd_Line_peak ct_Line_peak : Value} {od_Line_peak an_Line_peak : Option Addr} {sl_Line_peak : Array (Option Value)} {oc_Line_walk kV_Line_walk dc_Line_walk pm_Line_walk cd_Line_walk ct_Line_walk : Value} {od_Line_walk an_Line_walk : Option Addr} {sl_Line_walk : Array (Option Value)} {oc_Line_load kV_Line_load dc_Line_load pm_Line_load cd_Line_load ct_Line_load : Value} {od_Line_load an_Line_load : Option Addr} {sl_Line_load : Array (Option Value)} {oc_number_written kV_number_written dc_number_written pm_number_written cd_number_written ct_number_written : Value} {od_number_written an_number_written : Option Addr} {sl_number_written : Array (Option Value)} {oc_trip_written kV_trip_written dc_trip_written pm_trip_written cd_trip_written ct_trip_written : Value} {od_trip_written an_trip_written : Option Addr} {sl_trip_written : Array (Option Value)} {oc_Line_readE kV_Line_readE dc_Line_readE pm_Line_readE cd_Line_readE ct_Line_readE : Value} {od_Line_readE an_Line_readE : Option Addr} {sl_Line_readE : Array (Option Value)} {oc_law_draw kV_law_draw dc_law_draw pm_law_draw cd_law_draw ct_law_draw : Value} {od_law_draw an_law_draw : Option Addr} {sl_law_draw : Array (Option Value)} {oc_law_far kV_law_far dc_law_far pm_law_far cd_law_far ct_law_far : Value} {od_law_far an_law_far : Option Addr} {sl_law_far : Array (Option Value)} {oc_law_rides kV_law_rides dc_law_rides pm_law_rides cd_law_rides ct_law_rides : Value} {od_law_rides an_law_rides : Option Addr} {sl_law_rides : Array (Option Value)} {oc_law_other_fields kV_law_other_fields dc_law_other_fields pm_law_other_fields cd_law_other_fields ct_law_other_fields : Value} {od_law_other_fields an_law_other_fields : Option Addr} {sl_law_other_fields : Array (Option Value)} {oc_law_fields kV_law_fields dc_law_fields pm_law_fields cd_law_fields ct_law_fields : Value} {od_law_fields an_law_fields : Option Addr} {sl_law_fields : Array (Option Value)} {oc_law_kind kV_law_kind dc_law_kind pm_law_kind cd_law_kind ct_law_kind : Value} {od_law_kind an_law_kind : Option Addr} {sl_law_kind : Array (Option Value)} {oc_law_caught kV_law_caught dc_law_caught pm_law_caught cd_law_caught ct_law_caught : Value} {od_law_caught an_law_caught : Option Addr} {sl_law_caught : Array (Option Value)} {oc_law_refused kV_law_refused dc_law_refused pm_law_refused  ct_law_refused : Value} {od_law_refused an_law_refused : Option Addr} {sl_law_refused : Array (Option Value)} {oCT : Option Addr} {slCT : Array (Option Value)} {cvT : Array Value} {oc_law_shows kV_law_shows dc_law_shows pm_law_shows cd_law_shows ct_law_shows : Value} {od_law_shows an_law_shows : Option Addr} {sl_law_shows : Array (Option Value)} {oc_law_words kV_law_words dc_law_words pm_law_words cd_law_words ct_law_words : Value} {od_law_words an_law_words : Option Addr} {sl_law_words : Array (Option Value)} {oc_law_right4 kV_law_right4 dc_law_right4 pm_law_right4 cd_law_right4 ct_law_right4 : Value} {od_law_right4 an_law_right4 : Option Addr} {sl_law_right4 : Array (Option Value)} {oc_law4 kV_law4 dc_law4 pm_law4 cd_law4 ct_law4 : Value} {od_law4 an_law4 : Option Addr} {sl_law4 : Array (Option Value)} {tv_DIGITS : Tok} {tv_LETTERS : Tok} {tv_LONGEST_NAME : Tok} {tv_MAX_SEATS : Tok} {tv_MAX_TRIPS : Tok}
  (X : K.In h) (G : h.Ns mainGlobals mg) (hfa : mg "law" = some (.ref fa))
  (hC : PySem.W.nsIn K mainGlobals "Line" = some (some (.ref CLine)))
  (c1 : PySem.W.plainGet K CLine Str.empty = true)
  (c2 : PySem.W.hasDictIn K CLine = true)
  (c3 : PySem.W.plainOver K CLine = true)
  (c4 : PySem.W.findIn K (.ref CLine) "__setattr__" = some (some (.builtin "object.__setattr__")))
  (t1 : PySem.W.findIn K (.ref CLine) "__class__" = some (some (.builtin "object.__class__")))
  (t2 : PySem.W.specialIn K (.builtin "object.__class__") "__get__" = some (some (.builtin "getset_descriptor.__get__")))
  (t3 : PySem.W.takesIn K (.builtin "object.__class__") = some true)
  (t4 : PySem.W.mroIn K CLine (.type "object") = some true)
  (t5 : PySem.W.kitOne K (.ref CLine) (.ref CLine) = some true)
  (ty0 : PySem.W.kitOne K (.ref CLine) (.type "int") = some false)
  (ty1 : PySem.W.kitOne K (.ref CLine) (.type "bool") = some false)
  (ty2 : PySem.W.kitOne K (.ref CLine) (.type "str") = some false)
  (ty3 : PySem.W.kitOne K (.ref CLine) (.type "tuple") = some false)
  (ty4 : PySem.W.kitOne K (.ref CLine) (.type "list") = some false)
  (ty5 : PySem.W.kitOne K (.ref CLine) (.type "dict") = some false)
  (no0 : PySem.W.kitOne K (.type "NoneType") (.ref CLine) = some false)
  (no1 : PySem.W.kitOne K (.type "int") (.ref CLine) = some false)
  (no2 : PySem.W.kitOne K (.type "bool") (.ref CLine) = some false)
  (no3 : PySem.W.kitOne K (.type "str") (.ref CLine) = some false)
  (no4 : PySem.W.kitOne K (.type "tuple") (.ref CLine) = some false)
  (no5 : PySem.W.kitOne K (.type "list") (.ref CLine) = some false)
  (no6 : PySem.W.kitOne K (.type "dict") (.ref CLine) = some false)
  (m1 : PySem.W.makesIn K CLine = true)
  (m2 : PySem.W.findIn K (.ref CLine) "__init__" = some (some (.ref f_Line_initX)))
  (m3 : PySem.W.isFn K (.ref f_Line_initX) = true)
  (m4 : PySem.W.keepIn K (.ref CLine) = true)
  (u1 : PySem.W.findIn K (.ref CLine) "capacity" = some (some (.ref qC)))
  (u2 : PySem.W.specialIn K (.ref qC) "__get__" = some (some (.builtin "property.__get__")))
  (u3 : PySem.W.takesIn K (.ref qC) = some true)
  (u4 : PySem.W.recIn K qC "property" = some (.ref f_Line_capacity :: rC))
  (u1_order : PySem.W.findIn K (.ref CLine) "order" = some (some (.ref q_order)))
  (u2_order : PySem.W.specialIn K (.ref q_order) "__get__" = some (some (.builtin "property.__get__")))
  (u3_order : PySem.W.takesIn K (.ref q_order) = some true)
  (u4_order : PySem.W.recIn K q_order "property" = some (.ref f_Line_order :: r_order))
  (u1_peak : PySem.W.findIn K (.ref CLine) "peak" = some (some (.ref q_peak)))
  (u2_peak : PySem.W.specialIn K (.ref q_peak) "__get__" = some (some (.builtin "property.__get__")))
  (u3_peak : PySem.W.takesIn K (.ref q_peak) = some true)
  (u4_peak : PySem.W.recIn K q_peak "property" = some (.ref f_Line_peak :: r_peak))
  (w1_walk : PySem.W.findIn K (.ref CLine) "walk" = some (some (.ref f_Line_walk)))
  (w2_walk : PySem.W.isFn K (.ref f_Line_walk) = true)
  (w1_load : PySem.W.findIn K (.ref CLine) "load" = some (some (.ref f_Line_load)))
  (w2_load : PySem.W.isFn K (.ref f_Line_load) = true)
  (rp : PySem.W.findIn K (.ref CLine) "__repr__" = some (some (.ref f_Line_reprB)))
  (rpf : PySem.W.isFn K (.ref f_Line_reprB) = true)
  (x1 : PySem.W.findIn K (.ref CLine) "__eq__" = some (some (.ref f_Line_eq)))
  (x1f : PySem.W.isFn K (.ref f_Line_eq) = true)
  (x2 : PySem.W.findIn K (.ref CLine) "__len__" = some (some (.ref f_Line_len)))
  (x2f : PySem.W.isFn K (.ref f_Line_len) = true)
  (x3 : PySem.W.findIn K (.ref CLine) "__str__" = some (some (.ref f_Line_strB)))
  (x3f : PySem.W.isFn K (.ref f_Line_strB) = true)
  (x4 : PySem.W.findIn K (.ref CLine) "__ne__" = some (some (.builtin "object.__ne__")))
  (x5 : PySem.W.findIn K (.ref CLine) "__bool__" = some none)
  (nf0 : PySem.W.notFirst K CLine (.type "NoneType") = true)
  (nf1 : PySem.W.notFirst K CLine (.type "int") = true)
  (nf2 : PySem.W.notFirst K CLine (.type "bool") = true)
  (nf3 : PySem.W.notFirst K CLine (.type "str") = true)
  (nf4 : PySem.W.notFirst K CLine (.type "tuple") = true)
  (nf5 : PySem.W.notFirst K CLine (.type "list") = true)
  (nf6 : PySem.W.notFirst K CLine (.type "dict") = true)
  (r1 : PySem.W.readsIn K CLine mL = true)
  (r2 : PySem.W.specialIn K (.ref CLine) "__getattribute__" = some (some (.builtin "type.__getattribute__")))
  (d1_read : PySem.W.findCls K (.ref CLine) mL "read" = some (.get (.builtin "classmethod.__get__") (.ref qc_read) .none (.ref CLine)))
  (d2_read : PySem.W.recIn K qc_read "classmethod" = some (.ref f_Line_readE :: rM_read))
  (d3_read : PySem.W.fnIn K f_Line_readE = true)
  (d4_read : PySem.W.isClsIn K CLine = true)
  (d5_read : PySem.W.findIn K (.ref CLine) "read" = some (some (.ref qc_read)))
  (d6_read : PySem.W.typeIn K (.ref qc_read) = some (.type "classmethod"))
  (d7_read : PySem.W.specialIn K (.ref qc_read) "__get__" = some (some (.builtin "classmethod.__get__")))
  (d8_read : PySem.W.takesIn K (.ref qc_read) = some false)
  (q1 : PySem.W.findIn K (.ref CLine) "trips" = some (some (.ref qT)))
  (q2 : PySem.W.specialIn K (.ref qT) "__get__" = some (some (.builtin "property.__get__")))
  (q3 : PySem.W.takesIn K (.ref qT) = some true)
  (q4 : PySem.W.recIn K qT "property" = some (.ref f_Line_trips :: rT))
  (n_seat_count : PySem.W.findIn K (.ref CLine) "seat_count" = some none)
  (n_rows : PySem.W.findIn K (.ref CLine) "rows" = some none)
  (n_queue : PySem.W.findIn K (.ref CLine) "queue" = some none)
  (xg_Busy : PySem.W.nsIn K mainGlobals "Busy" = some (some (.ref C_Busy)))
  (xg_Full : PySem.W.nsIn K mainGlobals "Full" = some (some (.ref C_Full)))
  (xg_InvalidAction : PySem.W.nsIn K mainGlobals "InvalidAction" = some (some (.ref C_InvalidAction)))
  (xg_InvalidCommand : PySem.W.nsIn K mainGlobals "InvalidCommand" = some (some (.ref C_InvalidCommand)))
  (xg_InvalidExchange : PySem.W.nsIn K mainGlobals "InvalidExchange" = some (some (.ref C_InvalidExchange)))
  (xg_InvalidFixed : PySem.W.nsIn K mainGlobals "InvalidFixed" = some (some (.ref C_InvalidFixed)))
  (xg_InvalidName : PySem.W.nsIn K mainGlobals "InvalidName" = some (some (.ref C_InvalidName)))
  (xg_InvalidNumber : PySem.W.nsIn K mainGlobals "InvalidNumber" = some (some (.ref C_InvalidNumber)))
  (xg_InvalidPlan : PySem.W.nsIn K mainGlobals "InvalidPlan" = some (some (.ref C_InvalidPlan)))
  (xg_InvalidSeat : PySem.W.nsIn K mainGlobals "InvalidSeat" = some (some (.ref C_InvalidSeat)))
  (xg_InvalidSeats : PySem.W.nsIn K mainGlobals "InvalidSeats" = some (some (.ref C_InvalidSeats)))
  (xg_InvalidStation : PySem.W.nsIn K mainGlobals "InvalidStation" = some (some (.ref C_InvalidStation)))
  (xg_InvalidText : PySem.W.nsIn K mainGlobals "InvalidText" = some (some (.ref C_InvalidText)))
  (xg_InvalidTrips : PySem.W.nsIn K mainGlobals "InvalidTrips" = some (some (.ref C_InvalidTrips)))
  (xg_NameTaken : PySem.W.nsIn K mainGlobals "NameTaken" = some (some (.ref C_NameTaken)))
  (xg_NotALine : PySem.W.nsIn K mainGlobals "NotALine" = some (some (.ref C_NotALine)))
  (xg_NotFree : PySem.W.nsIn K mainGlobals "NotFree" = some (some (.ref C_NotFree)))
  (xg_NothingToUndo : PySem.W.nsIn K mainGlobals "NothingToUndo" = some (some (.ref C_NothingToUndo)))
  (xg_Overfull : PySem.W.nsIn K mainGlobals "Overfull" = some (some (.ref C_Overfull)))
  (xg_SeatError : PySem.W.nsIn K mainGlobals "SeatError" = some (some (.ref C_SeatError)))
  (xg_SizeError : PySem.W.nsIn K mainGlobals "SizeError" = some (some (.ref C_SizeError)))
  (xg_StateError : PySem.W.nsIn K mainGlobals "StateError" = some (some (.ref C_StateError)))
  (xg_TooManyEntries : PySem.W.nsIn K mainGlobals "TooManyEntries" = some (some (.ref C_TooManyEntries)))
  (xg_TooManyPlans : PySem.W.nsIn K mainGlobals "TooManyPlans" = some (some (.ref C_TooManyPlans)))
  (xg_TooManyTrips : PySem.W.nsIn K mainGlobals "TooManyTrips" = some (some (.ref C_TooManyTrips)))
  (xi_InvalidSeats : PySem.W.findIn K (.ref C_InvalidSeats) "__init__" = some (some (.ref fX_InvalidSeats)))
  (xl_InvalidSeats : K.lookup fX_InvalidSeats = some ⟨ocX_InvalidSeats, odX_InvalidSeats, .func (PySem.W.ksFn "__init__" "InvalidSeats.__init__" (defArgs x_InvalidSeats) (defBody x_InvalidSeats) (defScope x_InvalidSeats) .none kVX_InvalidSeats dcX_InvalidSeats pmX_InvalidSeats anX_InvalidSeats (.ref cda_InvalidSeats) ctX_InvalidSeats cc_InvalidSeats), slX_InvalidSeats⟩)
  (xc_InvalidSeats : K.lookup cc_InvalidSeats = some ⟨clX_InvalidSeats, cldX_InvalidSeats, .cell (some (.ref C_InvalidSeats)), csX_InvalidSeats⟩)
  (xd_InvalidSeats : K.lookup cda_InvalidSeats = some ⟨cclX_InvalidSeats, cddX_InvalidSeats, .fields vsX_InvalidSeats, ccX_InvalidSeats⟩)
  (xv_InvalidSeats : vsX_InvalidSeats[2]? = some (.str fileX_InvalidSeats tfX_InvalidSeats))
  (xf_InvalidSeats : ((l.prog.main.file : Str) == fileX_InvalidSeats) = true)
  (xtp_InvalidSeats : (l.prog.main.scope.names.lookup ("super" : Str)).isSome = false)
  (xB_InvalidSeats : xclB K C_InvalidSeats fX_InvalidSeats "InvalidSeats.__init__" "value" "ValueError" "ValueError.__init__" "ValueError.__new__" [.type "ValueError", .type "Exception", .type "BaseException", .type "object"] cda_InvalidSeats = true)
  (xi_InvalidText : PySem.W.findIn K (.ref C_InvalidText) "__init__" = some (some (.ref fX_InvalidText)))
  (xl_InvalidText : K.lookup fX_InvalidText = some ⟨ocX_InvalidText, odX_InvalidText, .func (PySem.W.ksFn "__init__" "InvalidText.__init__" (defArgs x_InvalidText) (defBody x_InvalidText) (defScope x_InvalidText) .none kVX_InvalidText dcX_InvalidText pmX_InvalidText anX_InvalidText (.ref cda_InvalidText) ctX_InvalidText cc_InvalidText), slX_InvalidText⟩)
  (xc_InvalidText : K.lookup cc_InvalidText = some ⟨clX_InvalidText, cldX_InvalidText, .cell (some (.ref C_InvalidText)), csX_InvalidText⟩)
  (xd_InvalidText : K.lookup cda_InvalidText = some ⟨cclX_InvalidText, cddX_InvalidText, .fields vsX_InvalidText, ccX_InvalidText⟩)
  (xv_InvalidText : vsX_InvalidText[2]? = some (.str fileX_InvalidText tfX_InvalidText))
  (xf_InvalidText : ((l.prog.main.file : Str) == fileX_InvalidText) = true)
  (xtp_InvalidText : (l.prog.main.scope.names.lookup ("super" : Str)).isSome = false)
  (xB_InvalidText : xclB K C_InvalidText fX_InvalidText "InvalidText.__init__" "text" "ValueError" "ValueError.__init__" "ValueError.__new__" [.type "ValueError", .type "Exception", .type "BaseException", .type "object"] cda_InvalidText = true)
  (xi_InvalidTrips : PySem.W.findIn K (.ref C_InvalidTrips) "__init__" = some (some (.ref fX_InvalidTrips)))
  (xl_InvalidTrips : K.lookup fX_InvalidTrips = some ⟨ocX_InvalidTrips, odX_InvalidTrips, .func (PySem.W.ksFn "__init__" "InvalidTrips.__init__" (defArgs x_InvalidTrips) (defBody x_InvalidTrips) (defScope x_InvalidTrips) .none kVX_InvalidTrips dcX_InvalidTrips pmX_InvalidTrips anX_InvalidTrips (.ref cda_InvalidTrips) ctX_InvalidTrips cc_InvalidTrips), slX_InvalidTrips⟩)
  (xc_InvalidTrips : K.lookup cc_InvalidTrips = some ⟨clX_InvalidTrips, cldX_InvalidTrips, .cell (some (.ref C_InvalidTrips)), csX_InvalidTrips⟩)
  (xd_InvalidTrips : K.lookup cda_InvalidTrips = some ⟨cclX_InvalidTrips, cddX_InvalidTrips, .fields vsX_InvalidTrips, ccX_InvalidTrips⟩)
  (xv_InvalidTrips : vsX_InvalidTrips[2]? = some (.str fileX_InvalidTrips tfX_InvalidTrips))
  (xf_InvalidTrips : ((l.prog.main.file : Str) == fileX_InvalidTrips) = true)
  (xtp_InvalidTrips : (l.prog.main.scope.names.lookup ("super" : Str)).isSome = false)
  (xB_InvalidTrips : xclB K C_InvalidTrips fX_InvalidTrips "InvalidTrips.__init__" "index" "ValueError" "ValueError.__init__" "ValueError.__new__" [.type "ValueError", .type "Exception", .type "BaseException", .type "object"] cda_InvalidTrips = true)
  (hk : kindB K C_InvalidText [C_InvalidSeats, C_InvalidTrips, C_InvalidName, C_InvalidSeat, C_InvalidStation, C_InvalidPlan, C_InvalidFixed, C_InvalidExchange, C_InvalidNumber, C_InvalidText, C_InvalidAction, C_InvalidCommand, C_NotALine, C_Overfull, C_Full, C_NameTaken, C_NotFree, C_Busy, C_NothingToUndo, C_TooManyTrips, C_TooManyPlans, C_TooManyEntries] C_SeatError C_StateError C_SizeError 9 = true)
  (hr1 : PySem.W.exmAny K (.ref C_InvalidSeats) [.ref C_InvalidSeats, .ref C_InvalidTrips] = some true)
  (hr2 : PySem.W.exmAny K (.ref C_InvalidTrips) [.ref C_InvalidSeats, .ref C_InvalidTrips] = some true)
  (hex : PySem.W.exmAny K (.ref C_InvalidText) [.ref C_SeatError, .ref C_StateError, .ref C_SizeError] = some true)
  (a_law_cell : PySem.W.nsIn K mainGlobals "_law_cell" = some (some (.ref f_law_cell)))
  (l_law_cell : K.lookup f_law_cell = some ⟨oc_law_cell, od_law_cell, .func (PySem.W.fnOf "_law_cell" "_law_cell" (defArgs s_law_cell) (defBody s_law_cell) (defScope s_law_cell) .none kV_law_cell dc_law_cell pm_law_cell an_law_cell cd_law_cell ct_law_cell), sl_law_cell⟩)
  (e_law_cell : PySem.W.codeIn K cd_law_cell "_law_cell" = true)
  (k_law_cell : PySem.W.keepIn K (.ref f_law_cell) = true)
  (a_law_pool : PySem.W.nsIn K mainGlobals "_law_pool" = some (some (.ref f_law_pool)))
  (l_law_pool : K.lookup f_law_pool = some ⟨oc_law_pool, od_law_pool, .func (PySem.W.fnOf "_law_pool" "_law_pool" (defArgs s_law_pool) (defBody s_law_pool) (defScope s_law_pool) .none kV_law_pool dc_law_pool pm_law_pool an_law_pool cd_law_pool ct_law_pool), sl_law_pool⟩)
  (e_law_pool : PySem.W.codeIn K cd_law_pool "_law_pool" = true)
  (k_law_pool : PySem.W.keepIn K (.ref f_law_pool) = true)
  (a_is_integer : PySem.W.nsIn K mainGlobals "is_integer" = some (some (.ref f_is_integer)))
  (l_is_integer : K.lookup f_is_integer = some ⟨oc_is_integer, od_is_integer, .func (PySem.W.fnOf "is_integer" "is_integer" (defArgs s_is_integer) (defBody s_is_integer) (defScope s_is_integer) .none kV_is_integer dc_is_integer pm_is_integer an_is_integer cd_is_integer ct_is_integer), sl_is_integer⟩)
  (e_is_integer : PySem.W.codeIn K cd_is_integer "is_integer" = true)
  (k_is_integer : PySem.W.keepIn K (.ref f_is_integer) = true)
  (a_check_seatsX : PySem.W.nsIn K mainGlobals "check_seats" = some (some (.ref f_check_seatsX)))
  (l_check_seatsX : K.lookup f_check_seatsX = some ⟨oc_check_seatsX, od_check_seatsX, .func (PySem.W.fnOf "check_seats" "check_seats" (defArgs s_check_seatsX) (defBody s_check_seatsX) (defScope s_check_seatsX) .none kV_check_seatsX dc_check_seatsX pm_check_seatsX an_check_seatsX cd_check_seatsX ct_check_seatsX), sl_check_seatsX⟩)
  (e_check_seatsX : PySem.W.codeIn K cd_check_seatsX "check_seats" = true)
  (k_check_seatsX : PySem.W.keepIn K (.ref f_check_seatsX) = true)
  (a_is_later : PySem.W.nsIn K mainGlobals "is_later" = some (some (.ref f_is_later)))
  (l_is_later : K.lookup f_is_later = some ⟨oc_is_later, od_is_later, .func (PySem.W.fnOf "is_later" "is_later" (defArgs s_is_later) (defBody s_is_later) (defScope s_is_later) .none kV_is_later dc_is_later pm_is_later an_is_later cd_is_later ct_is_later), sl_is_later⟩)
  (e_is_later : PySem.W.codeIn K cd_is_later "is_later" = true)
  (k_is_later : PySem.W.keepIn K (.ref f_is_later) = true)
  (a_is_station : PySem.W.nsIn K mainGlobals "is_station" = some (some (.ref f_is_station)))
  (l_is_station : K.lookup f_is_station = some ⟨oc_is_station, od_is_station, .func (PySem.W.fnOf "is_station" "is_station" (defArgs s_is_station) (defBody s_is_station) (defScope s_is_station) .none kV_is_station dc_is_station pm_is_station an_is_station cd_is_station ct_is_station), sl_is_station⟩)
  (e_is_station : PySem.W.codeIn K cd_is_station "is_station" = true)
  (k_is_station : PySem.W.keepIn K (.ref f_is_station) = true)
  (a_is_trip_name : PySem.W.nsIn K mainGlobals "is_trip_name" = some (some (.ref f_is_trip_name)))
  (l_is_trip_name : K.lookup f_is_trip_name = some ⟨oc_is_trip_name, od_is_trip_name, .func (PySem.W.fnOf "is_trip_name" "is_trip_name" (defArgs s_is_trip_name) (defBody s_is_trip_name) (defScope s_is_trip_name) .none kV_is_trip_name dc_is_trip_name pm_is_trip_name an_is_trip_name cd_is_trip_name ct_is_trip_name), sl_is_trip_name⟩)
  (e_is_trip_name : PySem.W.codeIn K cd_is_trip_name "is_trip_name" = true)
  (k_is_trip_name : PySem.W.keepIn K (.ref f_is_trip_name) = true)
  (a_is_tripE : PySem.W.nsIn K mainGlobals "is_trip" = some (some (.ref f_is_tripE)))
  (l_is_tripE : K.lookup f_is_tripE = some ⟨oc_is_tripE, od_is_tripE, .func (PySem.W.fnOf "is_trip" "is_trip" (defArgs s_is_tripE) (defBody s_is_tripE) (defScope s_is_tripE) .none kV_is_tripE dc_is_tripE pm_is_tripE an_is_tripE cd_is_tripE ct_is_tripE), sl_is_tripE⟩)
  (e_is_tripE : PySem.W.codeIn K cd_is_tripE "is_trip" = true)
  (k_is_tripE : PySem.W.keepIn K (.ref f_is_tripE) = true)
  (a_valid_beginningE : PySem.W.nsIn K mainGlobals "valid_beginning" = some (some (.ref f_valid_beginningE)))
  (l_valid_beginningE : K.lookup f_valid_beginningE = some ⟨oc_valid_beginningE, od_valid_beginningE, .func (PySem.W.fnOf "valid_beginning" "valid_beginning" (defArgs s_valid_beginningE) (defBody s_valid_beginningE) (defScope s_valid_beginningE) .none kV_valid_beginningE dc_valid_beginningE pm_valid_beginningE an_valid_beginningE cd_valid_beginningE ct_valid_beginningE), sl_valid_beginningE⟩)
  (e_valid_beginningE : PySem.W.codeIn K cd_valid_beginningE "valid_beginning" = true)
  (k_valid_beginningE : PySem.W.keepIn K (.ref f_valid_beginningE) = true)
  (l_Line_capacity : K.lookup f_Line_capacity = some ⟨oc_Line_capacity, od_Line_capacity, .func (PySem.W.fnOf "capacity" "Line.capacity" (defArgs s_Line_capacity) (defBody s_Line_capacity) (defScope s_Line_capacity) .none kV_Line_capacity dc_Line_capacity pm_Line_capacity an_Line_capacity cd_Line_capacity ct_Line_capacity), sl_Line_capacity⟩)
  (e_Line_capacity : PySem.W.codeIn K cd_Line_capacity "Line.capacity" = true)
  (k_Line_capacity : PySem.W.keepIn K (.ref f_Line_capacity) = true)
  (l_Line_trips : K.lookup f_Line_trips = some ⟨oc_Line_trips, od_Line_trips, .func (PySem.W.fnOf "trips" "Line.trips" (defArgs s_Line_trips) (defBody s_Line_trips) (defScope s_Line_trips) .none kV_Line_trips dc_Line_trips pm_Line_trips an_Line_trips cd_Line_trips ct_Line_trips), sl_Line_trips⟩)
  (e_Line_trips : PySem.W.codeIn K cd_Line_trips "Line.trips" = true)
  (k_Line_trips : PySem.W.keepIn K (.ref f_Line_trips) = true)
  (l_Line_len : K.lookup f_Line_len = some ⟨oc_Line_len, od_Line_len, .func (PySem.W.fnOf "__len__" "Line.__len__" (defArgs s_Line_len) (defBody s_Line_len) (defScope s_Line_len) .none kV_Line_len dc_Line_len pm_Line_len an_Line_len cd_Line_len ct_Line_len), sl_Line_len⟩)
  (e_Line_len : PySem.W.codeIn K cd_Line_len "Line.__len__" = true)
  (k_Line_len : PySem.W.keepIn K (.ref f_Line_len) = true)
  (l_Line_eq : K.lookup f_Line_eq = some ⟨oc_Line_eq, od_Line_eq, .func (PySem.W.fnOf "__eq__" "Line.__eq__" (defArgs s_Line_eq) (defBody s_Line_eq) (defScope s_Line_eq) .none kV_Line_eq dc_Line_eq pm_Line_eq an_Line_eq cd_Line_eq ct_Line_eq), sl_Line_eq⟩)
  (e_Line_eq : PySem.W.codeIn K cd_Line_eq "Line.__eq__" = true)
  (k_Line_eq : PySem.W.keepIn K (.ref f_Line_eq) = true)
  (l_Line_strB : K.lookup f_Line_strB = some ⟨oc_Line_strB, od_Line_strB, .func (PySem.W.fnOf "__str__" "Line.__str__" (defArgs s_Line_strB) (defBody s_Line_strB) (defScope s_Line_strB) .none kV_Line_strB dc_Line_strB pm_Line_strB an_Line_strB cd_Line_strB ct_Line_strB), sl_Line_strB⟩)
  (e_Line_strB : PySem.W.codeIn K cd_Line_strB "Line.__str__" = true)
  (k_Line_strB : PySem.W.keepIn K (.ref f_Line_strB) = true)
  (l_Line_reprB : K.lookup f_Line_reprB = some ⟨oc_Line_reprB, od_Line_reprB, .func (PySem.W.fnOf "__repr__" "Line.__repr__" (defArgs s_Line_reprB) (defBody s_Line_reprB) (defScope s_Line_reprB) .none kV_Line_reprB dc_Line_reprB pm_Line_reprB an_Line_reprB cd_Line_reprB ct_Line_reprB), sl_Line_reprB⟩)
  (e_Line_reprB : PySem.W.codeIn K cd_Line_reprB "Line.__repr__" = true)
  (k_Line_reprB : PySem.W.keepIn K (.ref f_Line_reprB) = true)
  (l_Line_initX : K.lookup f_Line_initX = some ⟨oc_Line_initX, od_Line_initX, .func (PySem.W.fnOf "__init__" "Line.__init__" (defArgs s_Line_initX) (defBody s_Line_initX) (defScope s_Line_initX) (.ref TD) kV_Line_initX dc_Line_initX pm_Line_initX an_Line_initX (.ref cL) ct_Line_initX), sl_Line_initX⟩)
  (e_Line_initX : PySem.W.codeIn K (.ref cL) "Line.__init__" = true)
  (k_Line_initX : PySem.W.keepIn K (.ref f_Line_initX) = true)
  (w1 : K.lookup TD = some ⟨.type "tuple", oTD, .seq #[.ref eL] nTD, slT⟩)
  (w2 : K.lookup eL = some ⟨.type "tuple", oEL, .seq #[] nEL, slE⟩)
  (w3 : K.lookup cL = some ⟨.type "code", oCL, .fields cvs, slC⟩)
  (w4 : (cvs[11]? : Option Value) = some (.ref tL))
  (w5 : PySem.W.codeHdIn K cL tL = true)
  (w6 : K.lookup tL = none)
  (a_load_of : PySem.W.nsIn K mainGlobals "load_of" = some (some (.ref f_load_of)))
  (l_load_of : K.lookup f_load_of = some ⟨oc_load_of, od_load_of, .func (PySem.W.fnOf "load_of" "load_of" (defArgs s_load_of) (defBody s_load_of) (defScope s_load_of) .none kV_load_of dc_load_of pm_load_of an_load_of cd_load_of ct_load_of), sl_load_of⟩)
  (e_load_of : PySem.W.codeIn K cd_load_of "load_of" = true)
  (k_load_of : PySem.W.keepIn K (.ref f_load_of) = true)
  (l_Line_order : K.lookup f_Line_order = some ⟨oc_Line_order, od_Line_order, .func (PySem.W.fnOf "order" "Line.order" (defArgs s_Line_order) (defBody s_Line_order) (defScope s_Line_order) .none kV_Line_order dc_Line_order pm_Line_order an_Line_order cd_Line_order ct_Line_order), sl_Line_order⟩)
  (e_Line_order : PySem.W.codeIn K cd_Line_order "Line.order" = true)
  (k_Line_order : PySem.W.keepIn K (.ref f_Line_order) = true)
  (l_Line_peak : K.lookup f_Line_peak = some ⟨oc_Line_peak, od_Line_peak, .func (PySem.W.fnOf "peak" "Line.peak" (defArgs s_Line_peak) (defBody s_Line_peak) (defScope s_Line_peak) .none kV_Line_peak dc_Line_peak pm_Line_peak an_Line_peak cd_Line_peak ct_Line_peak), sl_Line_peak⟩)
  (e_Line_peak : PySem.W.codeIn K cd_Line_peak "Line.peak" = true)
  (k_Line_peak : PySem.W.keepIn K (.ref f_Line_peak) = true)
  (l_Line_walk : K.lookup f_Line_walk = some ⟨oc_Line_walk, od_Line_walk, .func (PySem.W.fnOf "walk" "Line.walk" (defArgs s_Line_walk) (defBody s_Line_walk) (defScope s_Line_walk) .none kV_Line_walk dc_Line_walk pm_Line_walk an_Line_walk cd_Line_walk ct_Line_walk), sl_Line_walk⟩)
  (e_Line_walk : PySem.W.codeIn K cd_Line_walk "Line.walk" = true)
  (k_Line_walk : PySem.W.keepIn K (.ref f_Line_walk) = true)
  (l_Line_load : K.lookup f_Line_load = some ⟨oc_Line_load, od_Line_load, .func (PySem.W.fnOf "load" "Line.load" (defArgs s_Line_load) (defBody s_Line_load) (defScope s_Line_load) .none kV_Line_load dc_Line_load pm_Line_load an_Line_load cd_Line_load ct_Line_load), sl_Line_load⟩)
  (e_Line_load : PySem.W.codeIn K cd_Line_load "Line.load" = true)
  (k_Line_load : PySem.W.keepIn K (.ref f_Line_load) = true)
  (a_number_written : PySem.W.nsIn K mainGlobals "number_written" = some (some (.ref f_number_written)))
  (l_number_written : K.lookup f_number_written = some ⟨oc_number_written, od_number_written, .func (PySem.W.fnOf "number_written" "number_written" (defArgs s_number_written) (defBody s_number_written) (defScope s_number_written) .none kV_number_written dc_number_written pm_number_written an_number_written cd_number_written ct_number_written), sl_number_written⟩)
  (e_number_written : PySem.W.codeIn K cd_number_written "number_written" = true)
  (k_number_written : PySem.W.keepIn K (.ref f_number_written) = true)
  (a_trip_written : PySem.W.nsIn K mainGlobals "trip_written" = some (some (.ref f_trip_written)))
  (l_trip_written : K.lookup f_trip_written = some ⟨oc_trip_written, od_trip_written, .func (PySem.W.fnOf "trip_written" "trip_written" (defArgs s_trip_written) (defBody s_trip_written) (defScope s_trip_written) .none kV_trip_written dc_trip_written pm_trip_written an_trip_written cd_trip_written ct_trip_written), sl_trip_written⟩)
  (e_trip_written : PySem.W.codeIn K cd_trip_written "trip_written" = true)
  (k_trip_written : PySem.W.keepIn K (.ref f_trip_written) = true)
  (l_Line_readE : K.lookup f_Line_readE = some ⟨oc_Line_readE, od_Line_readE, .func (PySem.W.fnOf "read" "Line.read" (defArgs s_Line_readE) (defBody s_Line_readE) (defScope s_Line_readE) .none kV_Line_readE dc_Line_readE pm_Line_readE an_Line_readE cd_Line_readE ct_Line_readE), sl_Line_readE⟩)
  (e_Line_readE : PySem.W.codeIn K cd_Line_readE "Line.read" = true)
  (k_Line_readE : PySem.W.keepIn K (.ref f_Line_readE) = true)
  (a_law_draw : PySem.W.nsIn K mainGlobals "_law_draw" = some (some (.ref f_law_draw)))
  (l_law_draw : K.lookup f_law_draw = some ⟨oc_law_draw, od_law_draw, .func (PySem.W.fnOf "_law_draw" "_law_draw" (defArgs s_law_draw) (defBody s_law_draw) (defScope s_law_draw) .none kV_law_draw dc_law_draw pm_law_draw an_law_draw cd_law_draw ct_law_draw), sl_law_draw⟩)
  (e_law_draw : PySem.W.codeIn K cd_law_draw "_law_draw" = true)
  (k_law_draw : PySem.W.keepIn K (.ref f_law_draw) = true)
  (a_law_far : PySem.W.nsIn K mainGlobals "_law_far" = some (some (.ref f_law_far)))
  (l_law_far : K.lookup f_law_far = some ⟨oc_law_far, od_law_far, .func (PySem.W.fnOf "_law_far" "_law_far" (defArgs s_law_far) (defBody s_law_far) (defScope s_law_far) .none kV_law_far dc_law_far pm_law_far an_law_far cd_law_far ct_law_far), sl_law_far⟩)
  (e_law_far : PySem.W.codeIn K cd_law_far "_law_far" = true)
  (k_law_far : PySem.W.keepIn K (.ref f_law_far) = true)
  (a_law_rides : PySem.W.nsIn K mainGlobals "_law_rides" = some (some (.ref f_law_rides)))
  (l_law_rides : K.lookup f_law_rides = some ⟨oc_law_rides, od_law_rides, .func (PySem.W.fnOf "_law_rides" "_law_rides" (defArgs s_law_rides) (defBody s_law_rides) (defScope s_law_rides) .none kV_law_rides dc_law_rides pm_law_rides an_law_rides cd_law_rides ct_law_rides), sl_law_rides⟩)
  (e_law_rides : PySem.W.codeIn K cd_law_rides "_law_rides" = true)
  (k_law_rides : PySem.W.keepIn K (.ref f_law_rides) = true)
  (a_law_other_fields : PySem.W.nsIn K mainGlobals "_law_other_fields" = some (some (.ref f_law_other_fields)))
  (l_law_other_fields : K.lookup f_law_other_fields = some ⟨oc_law_other_fields, od_law_other_fields, .func (PySem.W.fnOf "_law_other_fields" "_law_other_fields" (defArgs s_law_other_fields) (defBody s_law_other_fields) (defScope s_law_other_fields) .none kV_law_other_fields dc_law_other_fields pm_law_other_fields an_law_other_fields cd_law_other_fields ct_law_other_fields), sl_law_other_fields⟩)
  (e_law_other_fields : PySem.W.codeIn K cd_law_other_fields "_law_other_fields" = true)
  (k_law_other_fields : PySem.W.keepIn K (.ref f_law_other_fields) = true)
  (a_law_fields : PySem.W.nsIn K mainGlobals "_law_fields" = some (some (.ref f_law_fields)))
  (l_law_fields : K.lookup f_law_fields = some ⟨oc_law_fields, od_law_fields, .func (PySem.W.fnOf "_law_fields" "_law_fields" (defArgs s_law_fields) (defBody s_law_fields) (defScope s_law_fields) .none kV_law_fields dc_law_fields pm_law_fields an_law_fields cd_law_fields ct_law_fields), sl_law_fields⟩)
  (e_law_fields : PySem.W.codeIn K cd_law_fields "_law_fields" = true)
  (k_law_fields : PySem.W.keepIn K (.ref f_law_fields) = true)
  (a_law_kind : PySem.W.nsIn K mainGlobals "_law_kind" = some (some (.ref f_law_kind)))
  (l_law_kind : K.lookup f_law_kind = some ⟨oc_law_kind, od_law_kind, .func (PySem.W.fnOf "_law_kind" "_law_kind" (defArgs s_law_kind) (defBody s_law_kind) (defScope s_law_kind) .none kV_law_kind dc_law_kind pm_law_kind an_law_kind cd_law_kind ct_law_kind), sl_law_kind⟩)
  (e_law_kind : PySem.W.codeIn K cd_law_kind "_law_kind" = true)
  (k_law_kind : PySem.W.keepIn K (.ref f_law_kind) = true)
  (a_law_caught : PySem.W.nsIn K mainGlobals "_law_caught" = some (some (.ref f_law_caught)))
  (l_law_caught : K.lookup f_law_caught = some ⟨oc_law_caught, od_law_caught, .func (PySem.W.fnOf "_law_caught" "_law_caught" (defArgs s_law_caught) (defBody s_law_caught) (defScope s_law_caught) .none kV_law_caught dc_law_caught pm_law_caught an_law_caught cd_law_caught ct_law_caught), sl_law_caught⟩)
  (e_law_caught : PySem.W.codeIn K cd_law_caught "_law_caught" = true)
  (k_law_caught : PySem.W.keepIn K (.ref f_law_caught) = true)
  (a_law_refused : PySem.W.nsIn K mainGlobals "_law_refused" = some (some (.ref f_law_refused)))
  (l_law_refused : K.lookup f_law_refused = some ⟨oc_law_refused, od_law_refused, .func (PySem.W.fnOf "_law_refused" "_law_refused" (defArgs s_law_refused) (defBody s_law_refused) (defScope s_law_refused) .none kV_law_refused dc_law_refused pm_law_refused an_law_refused (.ref cT) ct_law_refused), sl_law_refused⟩)
  (e_law_refused : PySem.W.codeIn K (.ref cT) "_law_refused" = true)
  (k_law_refused : PySem.W.keepIn K (.ref f_law_refused) = true)
  (z3 : K.lookup cT = some ⟨.type "code", oCT, .fields cvT, slCT⟩)
  (z4 : (cvT[11]? : Option Value) = some (.ref tT))
  (z5 : PySem.W.codeHdIn K cT tT = true)
  (z6 : K.lookup tT = none)
  (a_law_shows : PySem.W.nsIn K mainGlobals "_law_shows" = some (some (.ref f_law_shows)))
  (l_law_shows : K.lookup f_law_shows = some ⟨oc_law_shows, od_law_shows, .func (PySem.W.fnOf "_law_shows" "_law_shows" (defArgs s_law_shows) (defBody s_law_shows) (defScope s_law_shows) .none kV_law_shows dc_law_shows pm_law_shows an_law_shows cd_law_shows ct_law_shows), sl_law_shows⟩)
  (e_law_shows : PySem.W.codeIn K cd_law_shows "_law_shows" = true)
  (k_law_shows : PySem.W.keepIn K (.ref f_law_shows) = true)
  (a_law_words : PySem.W.nsIn K mainGlobals "_law_words" = some (some (.ref f_law_words)))
  (l_law_words : K.lookup f_law_words = some ⟨oc_law_words, od_law_words, .func (PySem.W.fnOf "_law_words" "_law_words" (defArgs s_law_words) (defBody s_law_words) (defScope s_law_words) .none kV_law_words dc_law_words pm_law_words an_law_words cd_law_words ct_law_words), sl_law_words⟩)
  (e_law_words : PySem.W.codeIn K cd_law_words "_law_words" = true)
  (k_law_words : PySem.W.keepIn K (.ref f_law_words) = true)
  (a_law_right4 : PySem.W.nsIn K mainGlobals "_law_right" = some (some (.ref f_law_right4)))
  (l_law_right4 : K.lookup f_law_right4 = some ⟨oc_law_right4, od_law_right4, .func (PySem.W.fnOf "_law_right" "_law_right" (defArgs s_law_right4) (defBody s_law_right4) (defScope s_law_right4) .none kV_law_right4 dc_law_right4 pm_law_right4 an_law_right4 cd_law_right4 ct_law_right4), sl_law_right4⟩)
  (e_law_right4 : PySem.W.codeIn K cd_law_right4 "_law_right" = true)
  (k_law_right4 : PySem.W.keepIn K (.ref f_law_right4) = true)
  (a_law4 : PySem.W.nsIn K mainGlobals "law" = some (some (.ref f_law4)))
  (l_law4 : K.lookup f_law4 = some ⟨oc_law4, od_law4, .func (PySem.W.fnOf "law" "law" (defArgs s_law4) (defBody s_law4) (defScope s_law4) .none kV_law4 dc_law4 pm_law4 an_law4 cd_law4 ct_law4), sl_law4⟩)
  (e_law4 : PySem.W.codeIn K cd_law4 "law" = true)
  (k_law4 : PySem.W.keepIn K (.ref f_law4) = true)
  (b_ArithmeticError : PySem.W.nsIn K mainGlobals "ArithmeticError" = some none)
  (v_DIGITS : PySem.W.nsIn K mainGlobals "DIGITS" = some (some (.str ("0123456789" : Str) tv_DIGITS)))
  (v_LETTERS : PySem.W.nsIn K mainGlobals "LETTERS" = some (some (.str ("abcdefghijklmnopqrstuvwxyz" : Str) tv_LETTERS)))
  (v_LONGEST_NAME : PySem.W.nsIn K mainGlobals "LONGEST_NAME" = some (some (.int 8 tv_LONGEST_NAME)))
  (b_LookupError : PySem.W.nsIn K mainGlobals "LookupError" = some none)
  (v_MAX_SEATS : PySem.W.nsIn K mainGlobals "MAX_SEATS" = some (some (.int 20 tv_MAX_SEATS)))
  (v_MAX_TRIPS : PySem.W.nsIn K mainGlobals "MAX_TRIPS" = some (some (.int 24 tv_MAX_TRIPS)))
  (b_ValueError : PySem.W.nsIn K mainGlobals "ValueError" = some none)
  (b_abs : PySem.W.nsIn K mainGlobals "abs" = some none)
  (b_all : PySem.W.nsIn K mainGlobals "all" = some none)
  (b_bool : PySem.W.nsIn K mainGlobals "bool" = some none)
  (b_divmod : PySem.W.nsIn K mainGlobals "divmod" = some none)
  (b_enumerate : PySem.W.nsIn K mainGlobals "enumerate" = some none)
  (b_int : PySem.W.nsIn K mainGlobals "int" = some none)
  (b_isinstance : PySem.W.nsIn K mainGlobals "isinstance" = some none)
  (b_len : PySem.W.nsIn K mainGlobals "len" = some none)
  (b_list : PySem.W.nsIn K mainGlobals "list" = some none)
  (b_max : PySem.W.nsIn K mainGlobals "max" = some none)
  (b_min : PySem.W.nsIn K mainGlobals "min" = some none)
  (b_range : PySem.W.nsIn K mainGlobals "range" = some none)
  (b_repr : PySem.W.nsIn K mainGlobals "repr" = some none)
  (b_sorted : PySem.W.nsIn K mainGlobals "sorted" = some none)
  (b_str : PySem.W.nsIn K mainGlobals "str" = some none)
  (b_super : PySem.W.nsIn K mainGlobals "super" = some none)
  (b_tuple : PySem.W.nsIn K mainGlobals "tuple" = some none)
  (htT : h.get? tT = some (PySem.W.tabObj #[]))
  (tq : (tL == tT) = false)
  (nl : NoList K = true)
  (ht : h.get? tL = some (PySem.W.tabObj #[]))
  : LawG l w K 14 63 "_law_script" mg fa h := by
 have e := hfa.symm.trans (PySem.W.mg_of X G a_law4)
 obtain rfl : fa = f_law4 := Value.ref.inj (Option.some.inj e)
 let a : Ad := {
  CLine := CLine,
  cL := cL,
  tL := tL,
  eL := eL,
  qT := qT,
  qC := qC,
  pS := CLine,
  mL := mL,
  cT := cT,
  tT := tT,
  qc_read := qc_read,
  q_order := q_order,
  q_peak := q_peak,
  XC := fun x => ([(("Busy" : Str), C_Busy), (("Full" : Str), C_Full), (("InvalidAction" : Str), C_InvalidAction), (("InvalidCommand" : Str), C_InvalidCommand), (("InvalidExchange" : Str), C_InvalidExchange), (("InvalidFixed" : Str), C_InvalidFixed), (("InvalidName" : Str), C_InvalidName), (("InvalidNumber" : Str), C_InvalidNumber), (("InvalidPlan" : Str), C_InvalidPlan), (("InvalidSeat" : Str), C_InvalidSeat), (("InvalidSeats" : Str), C_InvalidSeats), (("InvalidStation" : Str), C_InvalidStation), (("InvalidText" : Str), C_InvalidText), (("InvalidTrips" : Str), C_InvalidTrips), (("NameTaken" : Str), C_NameTaken), (("NotALine" : Str), C_NotALine), (("NotFree" : Str), C_NotFree), (("NothingToUndo" : Str), C_NothingToUndo), (("Overfull" : Str), C_Overfull), (("SeatError" : Str), C_SeatError), (("SizeError" : Str), C_SizeError), (("StateError" : Str), C_StateError), (("TooManyEntries" : Str), C_TooManyEntries), (("TooManyPlans" : Str), C_TooManyPlans), (("TooManyTrips" : Str), C_TooManyTrips)].lookup x).getD CLine,
  f_law_cell := f_law_cell,
  d_law_cell := PySem.W.fnOf "_law_cell" "_law_cell" (defArgs s_law_cell) (defBody s_law_cell) (defScope s_law_cell) .none kV_law_cell dc_law_cell pm_law_cell an_law_cell cd_law_cell ct_law_cell,
  f_law_pool := f_law_pool,
  d_law_pool := PySem.W.fnOf "_law_pool" "_law_pool" (defArgs s_law_pool) (defBody s_law_pool) (defScope s_law_pool) .none kV_law_pool dc_law_pool pm_law_pool an_law_pool cd_law_pool ct_law_pool,
  f_is_integer := f_is_integer,
  d_is_integer := PySem.W.fnOf "is_integer" "is_integer" (defArgs s_is_integer) (defBody s_is_integer) (defScope s_is_integer) .none kV_is_integer dc_is_integer pm_is_integer an_is_integer cd_is_integer ct_is_integer,
  f_check_seatsX := f_check_seatsX,
  d_check_seatsX := PySem.W.fnOf "check_seats" "check_seats" (defArgs s_check_seatsX) (defBody s_check_seatsX) (defScope s_check_seatsX) .none kV_check_seatsX dc_check_seatsX pm_check_seatsX an_check_seatsX cd_check_seatsX ct_check_seatsX,
  f_is_later := f_is_later,
  d_is_later := PySem.W.fnOf "is_later" "is_later" (defArgs s_is_later) (defBody s_is_later) (defScope s_is_later) .none kV_is_later dc_is_later pm_is_later an_is_later cd_is_later ct_is_later,
  f_is_station := f_is_station,
  d_is_station := PySem.W.fnOf "is_station" "is_station" (defArgs s_is_station) (defBody s_is_station) (defScope s_is_station) .none kV_is_station dc_is_station pm_is_station an_is_station cd_is_station ct_is_station,
  f_is_trip_name := f_is_trip_name,
  d_is_trip_name := PySem.W.fnOf "is_trip_name" "is_trip_name" (defArgs s_is_trip_name) (defBody s_is_trip_name) (defScope s_is_trip_name) .none kV_is_trip_name dc_is_trip_name pm_is_trip_name an_is_trip_name cd_is_trip_name ct_is_trip_name,
  f_is_tripE := f_is_tripE,
  d_is_tripE := PySem.W.fnOf "is_trip" "is_trip" (defArgs s_is_tripE) (defBody s_is_tripE) (defScope s_is_tripE) .none kV_is_tripE dc_is_tripE pm_is_tripE an_is_tripE cd_is_tripE ct_is_tripE,
  f_valid_beginningE := f_valid_beginningE,
  d_valid_beginningE := PySem.W.fnOf "valid_beginning" "valid_beginning" (defArgs s_valid_beginningE) (defBody s_valid_beginningE) (defScope s_valid_beginningE) .none kV_valid_beginningE dc_valid_beginningE pm_valid_beginningE an_valid_beginningE cd_valid_beginningE ct_valid_beginningE,
  f_Line_capacity := f_Line_capacity,
  d_Line_capacity := PySem.W.fnOf "capacity" "Line.capacity" (defArgs s_Line_capacity) (defBody s_Line_capacity) (defScope s_Line_capacity) .none kV_Line_capacity dc_Line_capacity pm_Line_capacity an_Line_capacity cd_Line_capacity ct_Line_capacity,
  f_Line_trips := f_Line_trips,
  d_Line_trips := PySem.W.fnOf "trips" "Line.trips" (defArgs s_Line_trips) (defBody s_Line_trips) (defScope s_Line_trips) .none kV_Line_trips dc_Line_trips pm_Line_trips an_Line_trips cd_Line_trips ct_Line_trips,
  f_Line_len := f_Line_len,
  d_Line_len := PySem.W.fnOf "__len__" "Line.__len__" (defArgs s_Line_len) (defBody s_Line_len) (defScope s_Line_len) .none kV_Line_len dc_Line_len pm_Line_len an_Line_len cd_Line_len ct_Line_len,
  f_Line_eq := f_Line_eq,
  d_Line_eq := PySem.W.fnOf "__eq__" "Line.__eq__" (defArgs s_Line_eq) (defBody s_Line_eq) (defScope s_Line_eq) .none kV_Line_eq dc_Line_eq pm_Line_eq an_Line_eq cd_Line_eq ct_Line_eq,
  f_Line_strB := f_Line_strB,
  d_Line_strB := PySem.W.fnOf "__str__" "Line.__str__" (defArgs s_Line_strB) (defBody s_Line_strB) (defScope s_Line_strB) .none kV_Line_strB dc_Line_strB pm_Line_strB an_Line_strB cd_Line_strB ct_Line_strB,
  f_Line_reprB := f_Line_reprB,
  d_Line_reprB := PySem.W.fnOf "__repr__" "Line.__repr__" (defArgs s_Line_reprB) (defBody s_Line_reprB) (defScope s_Line_reprB) .none kV_Line_reprB dc_Line_reprB pm_Line_reprB an_Line_reprB cd_Line_reprB ct_Line_reprB,
  f_Line_initX := f_Line_initX,
  d_Line_initX := PySem.W.fnOf "__init__" "Line.__init__" (defArgs s_Line_initX) (defBody s_Line_initX) (defScope s_Line_initX) (.ref TD) kV_Line_initX dc_Line_initX pm_Line_initX an_Line_initX (.ref cL) ct_Line_initX,
  f_load_of := f_load_of,
  d_load_of := PySem.W.fnOf "load_of" "load_of" (defArgs s_load_of) (defBody s_load_of) (defScope s_load_of) .none kV_load_of dc_load_of pm_load_of an_load_of cd_load_of ct_load_of,
  f_Line_order := f_Line_order,
  d_Line_order := PySem.W.fnOf "order" "Line.order" (defArgs s_Line_order) (defBody s_Line_order) (defScope s_Line_order) .none kV_Line_order dc_Line_order pm_Line_order an_Line_order cd_Line_order ct_Line_order,
  f_Line_peak := f_Line_peak,
  d_Line_peak := PySem.W.fnOf "peak" "Line.peak" (defArgs s_Line_peak) (defBody s_Line_peak) (defScope s_Line_peak) .none kV_Line_peak dc_Line_peak pm_Line_peak an_Line_peak cd_Line_peak ct_Line_peak,
  f_Line_walk := f_Line_walk,
  d_Line_walk := PySem.W.fnOf "walk" "Line.walk" (defArgs s_Line_walk) (defBody s_Line_walk) (defScope s_Line_walk) .none kV_Line_walk dc_Line_walk pm_Line_walk an_Line_walk cd_Line_walk ct_Line_walk,
  f_Line_load := f_Line_load,
  d_Line_load := PySem.W.fnOf "load" "Line.load" (defArgs s_Line_load) (defBody s_Line_load) (defScope s_Line_load) .none kV_Line_load dc_Line_load pm_Line_load an_Line_load cd_Line_load ct_Line_load,
  f_number_written := f_number_written,
  d_number_written := PySem.W.fnOf "number_written" "number_written" (defArgs s_number_written) (defBody s_number_written) (defScope s_number_written) .none kV_number_written dc_number_written pm_number_written an_number_written cd_number_written ct_number_written,
  f_trip_written := f_trip_written,
  d_trip_written := PySem.W.fnOf "trip_written" "trip_written" (defArgs s_trip_written) (defBody s_trip_written) (defScope s_trip_written) .none kV_trip_written dc_trip_written pm_trip_written an_trip_written cd_trip_written ct_trip_written,
  f_Line_readE := f_Line_readE,
  d_Line_readE := PySem.W.fnOf "read" "Line.read" (defArgs s_Line_readE) (defBody s_Line_readE) (defScope s_Line_readE) .none kV_Line_readE dc_Line_readE pm_Line_readE an_Line_readE cd_Line_readE ct_Line_readE,
  f_law_draw := f_law_draw,
  d_law_draw := PySem.W.fnOf "_law_draw" "_law_draw" (defArgs s_law_draw) (defBody s_law_draw) (defScope s_law_draw) .none kV_law_draw dc_law_draw pm_law_draw an_law_draw cd_law_draw ct_law_draw,
  f_law_far := f_law_far,
  d_law_far := PySem.W.fnOf "_law_far" "_law_far" (defArgs s_law_far) (defBody s_law_far) (defScope s_law_far) .none kV_law_far dc_law_far pm_law_far an_law_far cd_law_far ct_law_far,
  f_law_rides := f_law_rides,
  d_law_rides := PySem.W.fnOf "_law_rides" "_law_rides" (defArgs s_law_rides) (defBody s_law_rides) (defScope s_law_rides) .none kV_law_rides dc_law_rides pm_law_rides an_law_rides cd_law_rides ct_law_rides,
  f_law_other_fields := f_law_other_fields,
  d_law_other_fields := PySem.W.fnOf "_law_other_fields" "_law_other_fields" (defArgs s_law_other_fields) (defBody s_law_other_fields) (defScope s_law_other_fields) .none kV_law_other_fields dc_law_other_fields pm_law_other_fields an_law_other_fields cd_law_other_fields ct_law_other_fields,
  f_law_fields := f_law_fields,
  d_law_fields := PySem.W.fnOf "_law_fields" "_law_fields" (defArgs s_law_fields) (defBody s_law_fields) (defScope s_law_fields) .none kV_law_fields dc_law_fields pm_law_fields an_law_fields cd_law_fields ct_law_fields,
  f_law_kind := f_law_kind,
  d_law_kind := PySem.W.fnOf "_law_kind" "_law_kind" (defArgs s_law_kind) (defBody s_law_kind) (defScope s_law_kind) .none kV_law_kind dc_law_kind pm_law_kind an_law_kind cd_law_kind ct_law_kind,
  f_law_caught := f_law_caught,
  d_law_caught := PySem.W.fnOf "_law_caught" "_law_caught" (defArgs s_law_caught) (defBody s_law_caught) (defScope s_law_caught) .none kV_law_caught dc_law_caught pm_law_caught an_law_caught cd_law_caught ct_law_caught,
  f_law_refused := f_law_refused,
  d_law_refused := PySem.W.fnOf "_law_refused" "_law_refused" (defArgs s_law_refused) (defBody s_law_refused) (defScope s_law_refused) .none kV_law_refused dc_law_refused pm_law_refused an_law_refused (.ref cT) ct_law_refused,
  f_law_shows := f_law_shows,
  d_law_shows := PySem.W.fnOf "_law_shows" "_law_shows" (defArgs s_law_shows) (defBody s_law_shows) (defScope s_law_shows) .none kV_law_shows dc_law_shows pm_law_shows an_law_shows cd_law_shows ct_law_shows,
  f_law_words := f_law_words,
  d_law_words := PySem.W.fnOf "_law_words" "_law_words" (defArgs s_law_words) (defBody s_law_words) (defScope s_law_words) .none kV_law_words dc_law_words pm_law_words an_law_words cd_law_words ct_law_words,
  f_law_right4 := f_law_right4,
  d_law_right4 := PySem.W.fnOf "_law_right" "_law_right" (defArgs s_law_right4) (defBody s_law_right4) (defScope s_law_right4) .none kV_law_right4 dc_law_right4 pm_law_right4 an_law_right4 cd_law_right4 ct_law_right4,
  f_law4 := fa,
  d_law4 := PySem.W.fnOf "law" "law" (defArgs s_law4) (defBody s_law4) (defScope s_law4) .none kV_law4 dc_law4 pm_law4 an_law4 cd_law4 ct_law4 }
 have t : Tx l.prog w K mg a := {
  cl := ⟨c1, c2, c3, c4⟩,
  clt := ⟨⟨c1, c2, c3, c4⟩, t1, t2, t3, t4, t5, (fun n hn => by rcases List.mem_cons.mp hn with rfl | hn; exact ty0; rcases List.mem_cons.mp hn with rfl | hn; exact ty1; rcases List.mem_cons.mp hn with rfl | hn; exact ty2; rcases List.mem_cons.mp hn with rfl | hn; exact ty3; rcases List.mem_cons.mp hn with rfl | hn; exact ty4; rcases List.mem_cons.mp hn with rfl | hn; exact ty5; cases hn), (fun n hn => by rcases List.mem_cons.mp hn with rfl | hn; exact no0; rcases List.mem_cons.mp hn with rfl | hn; exact no1; rcases List.mem_cons.mp hn with rfl | hn; exact no2; rcases List.mem_cons.mp hn with rfl | hn; exact no3; rcases List.mem_cons.mp hn with rfl | hn; exact no4; rcases List.mem_cons.mp hn with rfl | hn; exact no5; rcases List.mem_cons.mp hn with rfl | hn; exact no6; cases hn)⟩,
  g_Line := PySem.W.mg_of X G hC,
  mkL := ⟨m1, m2, m3, m4⟩,
  p_capacity := ⟨u1, u2, u3, ⟨_, u4⟩⟩,
  p_order := ⟨u1_order, u2_order, u3_order, ⟨_, u4_order⟩⟩,
  p_peak := ⟨u1_peak, u2_peak, u3_peak, ⟨_, u4_peak⟩⟩,
  m_walk := ⟨w1_walk, w2_walk, k_Line_walk⟩,
  m_load := ⟨w1_load, w2_load, k_Line_load⟩,
  rp := rp,
  rpf := rpf,
  ow := { t := ⟨⟨c1, c2, c3, c4⟩, t1, t2, t3, t4, t5, (fun n hn => by rcases List.mem_cons.mp hn with rfl | hn; exact ty0; rcases List.mem_cons.mp hn with rfl | hn; exact ty1; rcases List.mem_cons.mp hn with rfl | hn; exact ty2; rcases List.mem_cons.mp hn with rfl | hn; exact ty3; rcases List.mem_cons.mp hn with rfl | hn; exact ty4; rcases List.mem_cons.mp hn with rfl | hn; exact ty5; cases hn), (fun n hn => by rcases List.mem_cons.mp hn with rfl | hn; exact no0; rcases List.mem_cons.mp hn with rfl | hn; exact no1; rcases List.mem_cons.mp hn with rfl | hn; exact no2; rcases List.mem_cons.mp hn with rfl | hn; exact no3; rcases List.mem_cons.mp hn with rfl | hn; exact no4; rcases List.mem_cons.mp hn with rfl | hn; exact no5; rcases List.mem_cons.mp hn with rfl | hn; exact no6; cases hn)⟩, eq := x1, eqf := x1f, ne := x4, len := x2, lenf := x2f, bool := x5, str := x3, strf := x3f, nf := (fun n hn => by rcases List.mem_cons.mp hn with rfl | hn; exact nf0; rcases List.mem_cons.mp hn with rfl | hn; exact nf1; rcases List.mem_cons.mp hn with rfl | hn; exact nf2; rcases List.mem_cons.mp hn with rfl | hn; exact nf3; rcases List.mem_cons.mp hn with rfl | hn; exact nf4; rcases List.mem_cons.mp hn with rfl | hn; exact nf5; rcases List.mem_cons.mp hn with rfl | hn; exact nf6; cases hn) },
  cr := ⟨r1, r2⟩,
  cm_read := ⟨d1_read, ⟨_, d2_read⟩, d3_read⟩,
  ci_read := ⟨c1, d4_read, d5_read, d6_read, d7_read, d8_read, by decide +kernel, ⟨_, d2_read⟩, d3_read⟩,
  p_trips := ⟨q1, q2, q3, ⟨_, q4⟩⟩,
  n_seat_count := n_seat_count,
  n_rows := n_rows,
  n_queue := n_queue,
  g_Busy := PySem.W.mg_of X G xg_Busy,
  g_Full := PySem.W.mg_of X G xg_Full,
  g_InvalidAction := PySem.W.mg_of X G xg_InvalidAction,
  g_InvalidCommand := PySem.W.mg_of X G xg_InvalidCommand,
  g_InvalidExchange := PySem.W.mg_of X G xg_InvalidExchange,
  g_InvalidFixed := PySem.W.mg_of X G xg_InvalidFixed,
  g_InvalidName := PySem.W.mg_of X G xg_InvalidName,
  g_InvalidNumber := PySem.W.mg_of X G xg_InvalidNumber,
  g_InvalidPlan := PySem.W.mg_of X G xg_InvalidPlan,
  g_InvalidSeat := PySem.W.mg_of X G xg_InvalidSeat,
  g_InvalidSeats := PySem.W.mg_of X G xg_InvalidSeats,
  g_InvalidStation := PySem.W.mg_of X G xg_InvalidStation,
  g_InvalidText := PySem.W.mg_of X G xg_InvalidText,
  g_InvalidTrips := PySem.W.mg_of X G xg_InvalidTrips,
  g_NameTaken := PySem.W.mg_of X G xg_NameTaken,
  g_NotALine := PySem.W.mg_of X G xg_NotALine,
  g_NotFree := PySem.W.mg_of X G xg_NotFree,
  g_NothingToUndo := PySem.W.mg_of X G xg_NothingToUndo,
  g_Overfull := PySem.W.mg_of X G xg_Overfull,
  g_SeatError := PySem.W.mg_of X G xg_SeatError,
  g_SizeError := PySem.W.mg_of X G xg_SizeError,
  g_StateError := PySem.W.mg_of X G xg_StateError,
  g_TooManyEntries := PySem.W.mg_of X G xg_TooManyEntries,
  g_TooManyPlans := PySem.W.mg_of X G xg_TooManyPlans,
  g_TooManyTrips := PySem.W.mg_of X G xg_TooManyTrips,
  xa_InvalidSeats := xAll_of baseV xt_InvalidSeats (PySem.W.mg_of X G xg_InvalidSeats) xi_InvalidSeats xl_InvalidSeats xc_InvalidSeats xd_InvalidSeats xv_InvalidSeats xf_InvalidSeats xtp_InvalidSeats xB_InvalidSeats,
  xa_InvalidText := xAll_of baseV xt_InvalidText (PySem.W.mg_of X G xg_InvalidText) xi_InvalidText xl_InvalidText xc_InvalidText xd_InvalidText xv_InvalidText xf_InvalidText xtp_InvalidText xB_InvalidText,
  xa_InvalidTrips := xAll_of baseV xt_InvalidTrips (PySem.W.mg_of X G xg_InvalidTrips) xi_InvalidTrips xl_InvalidTrips xc_InvalidTrips xd_InvalidTrips xv_InvalidTrips xf_InvalidTrips xtp_InvalidTrips xB_InvalidTrips,
  F_law_cell := fun_mk l_law_cell e_law_cell k_law_cell,
  g__law_cell := PySem.W.mg_of X G a_law_cell,
  k__law_cell := k_law_cell,
  F_law_pool := fun_mk l_law_pool e_law_pool k_law_pool,
  g__law_pool := PySem.W.mg_of X G a_law_pool,
  k__law_pool := k_law_pool,
  F_is_integer := fun_mk l_is_integer e_is_integer k_is_integer,
  g_is_integer := PySem.W.mg_of X G a_is_integer,
  k_is_integer := k_is_integer,
  F_check_seatsX := fun_mk l_check_seatsX e_check_seatsX k_check_seatsX,
  g_check_seats := PySem.W.mg_of X G a_check_seatsX,
  k_check_seats := k_check_seatsX,
  F_is_later := fun_mk l_is_later e_is_later k_is_later,
  g_is_later := PySem.W.mg_of X G a_is_later,
  k_is_later := k_is_later,
  F_is_station := fun_mk l_is_station e_is_station k_is_station,
  g_is_station := PySem.W.mg_of X G a_is_station,
  k_is_station := k_is_station,
  F_is_trip_name := fun_mk l_is_trip_name e_is_trip_name k_is_trip_name,
  g_is_trip_name := PySem.W.mg_of X G a_is_trip_name,
  k_is_trip_name := k_is_trip_name,
  F_is_tripE := fun_mk l_is_tripE e_is_tripE k_is_tripE,
  g_is_trip := PySem.W.mg_of X G a_is_tripE,
  k_is_trip := k_is_tripE,
  F_valid_beginningE := fun_mk l_valid_beginningE e_valid_beginningE k_valid_beginningE,
  g_valid_beginning := PySem.W.mg_of X G a_valid_beginningE,
  k_valid_beginning := k_valid_beginningE,
  F_Line_capacity := fun_mk l_Line_capacity e_Line_capacity k_Line_capacity,
  F_Line_trips := fun_mk l_Line_trips e_Line_trips k_Line_trips,
  F_Line_len := fun_mk l_Line_len e_Line_len k_Line_len,
  F_Line_eq := fun_mk l_Line_eq e_Line_eq k_Line_eq,
  F_Line_strB := fun_mk l_Line_strB e_Line_strB k_Line_strB,
  F_Line_reprB := fun_mk l_Line_reprB e_Line_reprB k_Line_reprB,
  F_Line_initX := ⟨⟨oc_Line_initX, od_Line_initX, .ref TD, kV_Line_initX, dc_Line_initX, pm_Line_initX, an_Line_initX, ct_Line_initX, sl_Line_initX, rfl, l_Line_initX, e_Line_initX, .inr ⟨by simp, TD, _, [.ref eL], _, rfl, w1, rfl, .cons rfl .nil⟩⟩, k_Line_initX⟩,
  dfl := by
   intro O H
   unfold Reps
   refine ⟨.ref eL, [], rfl, ?_, by unfold Reps; rfl⟩
   unfold Rep
   exact ⟨eL, [], rfl, .inr ⟨_, #[], nEL, w2, rfl, rfl, by decide, .nil⟩, by unfold Reps; rfl⟩,
  F_load_of := fun_mk l_load_of e_load_of k_load_of,
  g_load_of := PySem.W.mg_of X G a_load_of,
  k_load_of := k_load_of,
  F_Line_order := fun_mk l_Line_order e_Line_order k_Line_order,
  F_Line_peak := fun_mk l_Line_peak e_Line_peak k_Line_peak,
  F_Line_walk := fun_mk l_Line_walk e_Line_walk k_Line_walk,
  F_Line_load := fun_mk l_Line_load e_Line_load k_Line_load,
  F_number_written := fun_mk l_number_written e_number_written k_number_written,
  g_number_written := PySem.W.mg_of X G a_number_written,
  k_number_written := k_number_written,
  F_trip_written := fun_mk l_trip_written e_trip_written k_trip_written,
  g_trip_written := PySem.W.mg_of X G a_trip_written,
  k_trip_written := k_trip_written,
  F_Line_readE := fun_mk l_Line_readE e_Line_readE k_Line_readE,
  F_law_draw := fun_mk l_law_draw e_law_draw k_law_draw,
  g__law_draw := PySem.W.mg_of X G a_law_draw,
  k__law_draw := k_law_draw,
  F_law_far := fun_mk l_law_far e_law_far k_law_far,
  g__law_far := PySem.W.mg_of X G a_law_far,
  k__law_far := k_law_far,
  F_law_rides := fun_mk l_law_rides e_law_rides k_law_rides,
  g__law_rides := PySem.W.mg_of X G a_law_rides,
  k__law_rides := k_law_rides,
  F_law_other_fields := fun_mk l_law_other_fields e_law_other_fields k_law_other_fields,
  g__law_other_fields := PySem.W.mg_of X G a_law_other_fields,
  k__law_other_fields := k_law_other_fields,
  F_law_fields := fun_mk l_law_fields e_law_fields k_law_fields,
  g__law_fields := PySem.W.mg_of X G a_law_fields,
  k__law_fields := k_law_fields,
  F_law_kind := fun_mk l_law_kind e_law_kind k_law_kind,
  g__law_kind := PySem.W.mg_of X G a_law_kind,
  k__law_kind := k_law_kind,
  F_law_caught := fun_mk l_law_caught e_law_caught k_law_caught,
  g__law_caught := PySem.W.mg_of X G a_law_caught,
  k__law_caught := k_law_caught,
  F_law_refused := ⟨⟨oc_law_refused, od_law_refused, kV_law_refused, dc_law_refused, pm_law_refused, an_law_refused, ct_law_refused, sl_law_refused, rfl, l_law_refused, e_law_refused⟩, k_law_refused⟩,
  g__law_refused := PySem.W.mg_of X G a_law_refused,
  k__law_refused := k_law_refused,
  F_law_shows := fun_mk l_law_shows e_law_shows k_law_shows,
  g__law_shows := PySem.W.mg_of X G a_law_shows,
  k__law_shows := k_law_shows,
  F_law_words := fun_mk l_law_words e_law_words k_law_words,
  g__law_words := PySem.W.mg_of X G a_law_words,
  k__law_words := k_law_words,
  F_law_right4 := fun_mk l_law_right4 e_law_right4 k_law_right4,
  g__law_right := PySem.W.mg_of X G a_law_right4,
  k__law_right := k_law_right4,
  F_law4 := fun_mk l_law4 e_law4 k_law4,
  g_law := PySem.W.mg_of X G a_law4,
  k_law := k_law4,
  b_ArithmeticError := PySem.W.mg_none_of X G b_ArithmeticError,
  v_DIGITS := ⟨_, PySem.W.mg_of X G v_DIGITS, ⟨_, rfl⟩⟩,
  v_LETTERS := ⟨_, PySem.W.mg_of X G v_LETTERS, ⟨_, rfl⟩⟩,
  v_LONGEST_NAME := ⟨_, PySem.W.mg_of X G v_LONGEST_NAME, ⟨_, rfl⟩⟩,
  b_LookupError := PySem.W.mg_none_of X G b_LookupError,
  v_MAX_SEATS := ⟨_, PySem.W.mg_of X G v_MAX_SEATS, ⟨_, rfl⟩⟩,
  v_MAX_TRIPS := ⟨_, PySem.W.mg_of X G v_MAX_TRIPS, ⟨_, rfl⟩⟩,
  b_ValueError := PySem.W.mg_none_of X G b_ValueError,
  b_abs := PySem.W.mg_none_of X G b_abs,
  b_all := PySem.W.mg_none_of X G b_all,
  b_bool := PySem.W.mg_none_of X G b_bool,
  b_divmod := PySem.W.mg_none_of X G b_divmod,
  b_enumerate := PySem.W.mg_none_of X G b_enumerate,
  b_int := PySem.W.mg_none_of X G b_int,
  b_isinstance := PySem.W.mg_none_of X G b_isinstance,
  b_len := PySem.W.mg_none_of X G b_len,
  b_list := PySem.W.mg_none_of X G b_list,
  b_max := PySem.W.mg_none_of X G b_max,
  b_min := PySem.W.mg_none_of X G b_min,
  b_range := PySem.W.mg_none_of X G b_range,
  b_repr := PySem.W.mg_none_of X G b_repr,
  b_sorted := PySem.W.mg_none_of X G b_sorted,
  b_str := PySem.W.mg_none_of X G b_str,
  b_super := PySem.W.mg_none_of X G b_super,
  b_tuple := PySem.W.mg_none_of X G b_tuple,
  tne := fun e => by have e : tL = tT := e; rw [e] at tq; simp at tq }
 refine ⟨a.d_law4, [(cL, tL), (cT, tT)], TT a, sp_law4 K a.CLine a.XC, ?_, ?_, ?_, nl, ?_, fun s u => .of_eq rfl, fun ns hl _ => ⟨ns, rfl, hl, t.clt, ⟨⟨hr1, hr2⟩, kindF_of hk t.xa_InvalidText.is rfl rfl rfl rfl, t.xa_InvalidText.xf, hex⟩, rfl⟩, ?_⟩
 ·exact fun p hp => by
   rcases List.mem_cons.mp hp with rfl | hp
   ·exact PySem.W.codeHd_of_K X w5
   ·rcases List.mem_cons.mp hp with rfl | hp
    ·exact PySem.W.codeHd_of_K X z5
    ·cases hp
 ·exact fun p hp => by
   rcases List.mem_cons.mp hp with rfl | hp
   ·exact ht
   ·rcases List.mem_cons.mp hp with rfl | hp
    ·exact htT
    ·cases hp
 ·exact fun p hp => by
   rcases List.mem_cons.mp hp with rfl | hp
   ·exact w6
   ·rcases List.mem_cons.mp hp with rfl | hp
    ·exact z6
    ·cases hp
 ·exact fun p hp => by
   rcases List.mem_cons.mp hp with rfl | hp
   ·exact List.mem_cons_self
   ·rcases List.mem_cons.mp hp with rfl | hp
    ·exact List.mem_cons_of_mem _ List.mem_cons_self
    ·cases hp
 ·exact fun base _ _ TB => ok_law4 t ⟨TB (cL, tL) List.mem_cons_self, TB (cT, tT) (List.mem_cons_of_mem _ List.mem_cons_self)⟩
end ZK
open PySem PySem.W PyProof.Rows
set_option maxRecDepth 100000 in
set_option maxHeartbeats 0 in
theorem PySem.Challenge.cw_seatchains_k04_texts_that_are_none_holds : PySem.Challenge.rw_seatchains_k04_texts_that_are_none.Holds :=
 PySem.Challenge.hd04 (by
 k_fill
 refine Z.walkG (l := PySem.Challenge.rw_seatchains_k04_texts_that_are_none) (n := 63) (k := 14) (x := "_law_script") rfl (by decide) rfl ⟨rfl, by decide, by decide⟩ (fun w h Y => PySem.W.km_in_of Y) ?F
 case F =>
  intro w mg fa h Y KX G hmg
  refine' ZK.law_mk (mL := .type "type") KX G hmg ?hC ?c1 ?c2 ?c3 ?c4 ?t1 ?t2 ?t3 ?t4 ?t5 ?ty0 ?ty1 ?ty2 ?ty3 ?ty4 ?ty5 ?no0 ?no1 ?no2 ?no3 ?no4 ?no5 ?no6 ?m1 ?m2 ?m3 ?m4 ?u1 ?u2 ?u3 ?u4 ?u1_order ?u2_order ?u3_order ?u4_order ?u1_peak ?u2_peak ?u3_peak ?u4_peak ?w1_walk ?w2_walk ?w1_load ?w2_load ?rp ?rpf ?x1 ?x1f ?x2 ?x2f ?x3 ?x3f ?x4 ?x5 ?nf0 ?nf1 ?nf2 ?nf3 ?nf4 ?nf5 ?nf6 ?r1 ?r2 ?d1_read ?d2_read ?d3_read ?d4_read ?d5_read ?d6_read ?d7_read ?d8_read ?q1 ?q2 ?q3 ?q4 ?n_seat_count ?n_rows ?n_queue ?xg_Busy ?xg_Full ?xg_InvalidAction ?xg_InvalidCommand ?xg_InvalidExchange ?xg_InvalidFixed ?xg_InvalidName ?xg_InvalidNumber ?xg_InvalidPlan ?xg_InvalidSeat ?xg_InvalidSeats ?xg_InvalidStation ?xg_InvalidText ?xg_InvalidTrips ?xg_NameTaken ?xg_NotALine ?xg_NotFree ?xg_NothingToUndo ?xg_Overfull ?xg_SeatError ?xg_SizeError ?xg_StateError ?xg_TooManyEntries ?xg_TooManyPlans ?xg_TooManyTrips ?xi_InvalidSeats ?xl_InvalidSeats ?xc_InvalidSeats ?xd_InvalidSeats ?xv_InvalidSeats ?xf_InvalidSeats ?xtp_InvalidSeats ?xB_InvalidSeats ?xi_InvalidText ?xl_InvalidText ?xc_InvalidText ?xd_InvalidText ?xv_InvalidText ?xf_InvalidText ?xtp_InvalidText ?xB_InvalidText ?xi_InvalidTrips ?xl_InvalidTrips ?xc_InvalidTrips ?xd_InvalidTrips ?xv_InvalidTrips ?xf_InvalidTrips ?xtp_InvalidTrips ?xB_InvalidTrips ?hk ?hr1 ?hr2 ?hex ?a_law_cell ?l_law_cell ?e_law_cell ?k_law_cell ?a_law_pool ?l_law_pool ?e_law_pool ?k_law_pool ?a_is_integer ?l_is_integer ?e_is_integer ?k_is_integer ?a_check_seatsX ?l_check_seatsX ?e_check_seatsX ?k_check_seatsX ?a_is_later ?l_is_later ?e_is_later ?k_is_later ?a_is_station ?l_is_station ?e_is_station ?k_is_station ?a_is_trip_name ?l_is_trip_name ?e_is_trip_name ?k_is_trip_name ?a_is_tripE ?l_is_tripE ?e_is_tripE ?k_is_tripE ?a_valid_beginningE ?l_valid_beginningE ?e_valid_beginningE ?k_valid_beginningE ?l_Line_capacity ?e_Line_capacity ?k_Line_capacity ?l_Line_trips ?e_Line_trips ?k_Line_trips ?l_Line_len ?e_Line_len ?k_Line_len ?l_Line_eq ?e_Line_eq ?k_Line_eq ?l_Line_strB ?e_Line_strB ?k_Line_strB ?l_Line_reprB ?e_Line_reprB ?k_Line_reprB ?l_Line_initX ?e_Line_initX ?k_Line_initX ?w1 ?w2 ?w3 ?w4 ?w5 ?w6 ?a_load_of ?l_load_of ?e_load_of ?k_load_of ?l_Line_order ?e_Line_order ?k_Line_order ?l_Line_peak ?e_Line_peak ?k_Line_peak ?l_Line_walk ?e_Line_walk ?k_Line_walk ?l_Line_load ?e_Line_load ?k_Line_load ?a_number_written ?l_number_written ?e_number_written ?k_number_written ?a_trip_written ?l_trip_written ?e_trip_written ?k_trip_written ?l_Line_readE ?e_Line_readE ?k_Line_readE ?a_law_draw ?l_law_draw ?e_law_draw ?k_law_draw ?a_law_far ?l_law_far ?e_law_far ?k_law_far ?a_law_rides ?l_law_rides ?e_law_rides ?k_law_rides ?a_law_other_fields ?l_law_other_fields ?e_law_other_fields ?k_law_other_fields ?a_law_fields ?l_law_fields ?e_law_fields ?k_law_fields ?a_law_kind ?l_law_kind ?e_law_kind ?k_law_kind ?a_law_caught ?l_law_caught ?e_law_caught ?k_law_caught ?a_law_refused ?l_law_refused ?e_law_refused ?k_law_refused ?z3 ?z4 ?z5 ?z6 ?a_law_shows ?l_law_shows ?e_law_shows ?k_law_shows ?a_law_words ?l_law_words ?e_law_words ?k_law_words ?a_law_right4 ?l_law_right4 ?e_law_right4 ?k_law_right4 ?a_law4 ?l_law4 ?e_law4 ?k_law4 ?b_ArithmeticError ?v_DIGITS ?v_LETTERS ?v_LONGEST_NAME ?b_LookupError ?v_MAX_SEATS ?v_MAX_TRIPS ?b_ValueError ?b_abs ?b_all ?b_bool ?b_divmod ?b_enumerate ?b_int ?b_isinstance ?b_len ?b_list ?b_max ?b_min ?b_range ?b_repr ?b_sorted ?b_str ?b_super ?b_tuple ?htT ?tq ?nl ?ht
  (case hC => k_is)
  (case c1 => k_is)
  (case c2 => k_is)
  (case c3 => k_is)
  (case c4 => k_is)
  (case t1 => k_is)
  (case t2 => k_is)
  (case t3 => k_is)
  (case t4 => k_is)
  (case t5 => kernel_rfl)
  (case ty0 => kernel_rfl)
  (case ty1 => kernel_rfl)
  (case ty2 => kernel_rfl)
  (case ty3 => kernel_rfl)
  (case ty4 => kernel_rfl)
  (case ty5 => kernel_rfl)
  (case no0 => kernel_rfl)
  (case no1 => kernel_rfl)
  (case no2 => kernel_rfl)
  (case no3 => kernel_rfl)
  (case no4 => kernel_rfl)
  (case no5 => kernel_rfl)
  (case no6 => kernel_rfl)
  (case m1 => k_is)
  (case m2 => k_is)
  (case m3 => k_is)
  (case m4 => k_is)
  (case u1 => k_is)
  (case u2 => k_is)
  (case u3 => k_is)
  (case u4 => k_is)
  (case u1_order => k_is)
  (case u2_order => k_is)
  (case u3_order => k_is)
  (case u4_order => k_is)
  (case u1_peak => k_is)
  (case u2_peak => k_is)
  (case u3_peak => k_is)
  (case u4_peak => k_is)
  (case w1_walk => k_is)
  (case w2_walk => k_is)
  (case w1_load => k_is)
  (case w2_load => k_is)
  (case rp => k_is)
  (case rpf => k_is)
  (case x1 => k_is)
  (case x1f => k_is)
  (case x2 => k_is)
  (case x2f => k_is)
  (case x3 => k_is)
  (case x3f => k_is)
  (case x4 => k_is)
  (case x5 => k_is)
  (case nf0 => kernel_rfl)
  (case nf1 => kernel_rfl)
  (case nf2 => kernel_rfl)
  (case nf3 => kernel_rfl)
  (case nf4 => kernel_rfl)
  (case nf5 => kernel_rfl)
  (case nf6 => kernel_rfl)
  (case r1 => k_is)
  (case r2 => k_is)
  (case d1_read => k_is)
  (case d2_read => k_is)
  (case d3_read => k_is)
  (case d4_read => k_is)
  (case d5_read => k_is)
  (case d6_read => k_is)
  (case d7_read => k_is)
  (case d8_read => k_is)
  (case q1 => k_is)
  (case q2 => k_is)
  (case q3 => k_is)
  (case q4 => k_is)
  (case n_seat_count => k_is)
  (case n_rows => k_is)
  (case n_queue => k_is)
  (case xg_Busy => k_is)
  (case xg_Full => k_is)
  (case xg_InvalidAction => k_is)
  (case xg_InvalidCommand => k_is)
  (case xg_InvalidExchange => k_is)
  (case xg_InvalidFixed => k_is)
  (case xg_InvalidName => k_is)
  (case xg_InvalidNumber => k_is)
  (case xg_InvalidPlan => k_is)
  (case xg_InvalidSeat => k_is)
  (case xg_InvalidSeats => k_is)
  (case xg_InvalidStation => k_is)
  (case xg_InvalidText => k_is)
  (case xg_InvalidTrips => k_is)
  (case xg_NameTaken => k_is)
  (case xg_NotALine => k_is)
  (case xg_NotFree => k_is)
  (case xg_NothingToUndo => k_is)
  (case xg_Overfull => k_is)
  (case xg_SeatError => k_is)
  (case xg_SizeError => k_is)
  (case xg_StateError => k_is)
  (case xg_TooManyEntries => k_is)
  (case xg_TooManyPlans => k_is)
  (case xg_TooManyTrips => k_is)
  (case xi_InvalidSeats => k_is)
  (case xl_InvalidSeats => k_is)
  (case xc_InvalidSeats => k_is)
  (case xd_InvalidSeats => k_is)
  (case xv_InvalidSeats => rfl)
  (case xf_InvalidSeats => rfl)
  (case xtp_InvalidSeats => rfl)
  (case xB_InvalidSeats => kernel_rfl)
  (case xi_InvalidText => k_is)
  (case xl_InvalidText => k_is)
  (case xc_InvalidText => k_is)
  (case xd_InvalidText => k_is)
  (case xv_InvalidText => rfl)
  (case xf_InvalidText => rfl)
  (case xtp_InvalidText => rfl)
  (case xB_InvalidText => kernel_rfl)
  (case xi_InvalidTrips => k_is)
  (case xl_InvalidTrips => k_is)
  (case xc_InvalidTrips => k_is)
  (case xd_InvalidTrips => k_is)
  (case xv_InvalidTrips => rfl)
  (case xf_InvalidTrips => rfl)
  (case xtp_InvalidTrips => rfl)
  (case xB_InvalidTrips => kernel_rfl)
  (case hk => kernel_rfl)
  (case hr1 => kernel_rfl)
  (case hr2 => kernel_rfl)
  (case hex => kernel_rfl)
  (case a_law_cell => k_is)
  (case l_law_cell => k_is)
  (case e_law_cell => k_is)
  (case k_law_cell => k_is)
  (case a_law_pool => k_is)
  (case l_law_pool => k_is)
  (case e_law_pool => k_is)
  (case k_law_pool => k_is)
  (case a_is_integer => k_is)
  (case l_is_integer => k_is)
  (case e_is_integer => k_is)
  (case k_is_integer => k_is)
  (case a_check_seatsX => k_is)
  (case l_check_seatsX => k_is)
  (case e_check_seatsX => k_is)
  (case k_check_seatsX => k_is)
  (case a_is_later => k_is)
  (case l_is_later => k_is)
  (case e_is_later => k_is)
  (case k_is_later => k_is)
  (case a_is_station => k_is)
  (case l_is_station => k_is)
  (case e_is_station => k_is)
  (case k_is_station => k_is)
  (case a_is_trip_name => k_is)
  (case l_is_trip_name => k_is)
  (case e_is_trip_name => k_is)
  (case k_is_trip_name => k_is)
  (case a_is_tripE => k_is)
  (case l_is_tripE => k_is)
  (case e_is_tripE => k_is)
  (case k_is_tripE => k_is)
  (case a_valid_beginningE => k_is)
  (case l_valid_beginningE => k_is)
  (case e_valid_beginningE => k_is)
  (case k_valid_beginningE => k_is)
  (case l_Line_capacity => k_is)
  (case e_Line_capacity => k_is)
  (case k_Line_capacity => k_is)
  (case l_Line_trips => k_is)
  (case e_Line_trips => k_is)
  (case k_Line_trips => k_is)
  (case l_Line_len => k_is)
  (case e_Line_len => k_is)
  (case k_Line_len => k_is)
  (case l_Line_eq => k_is)
  (case e_Line_eq => k_is)
  (case k_Line_eq => k_is)
  (case l_Line_strB => k_is)
  (case e_Line_strB => k_is)
  (case k_Line_strB => k_is)
  (case l_Line_reprB => k_is)
  (case e_Line_reprB => k_is)
  (case k_Line_reprB => k_is)
  (case l_Line_initX => k_is)
  (case e_Line_initX => k_is)
  (case k_Line_initX => k_is)
  (case w1 => k_is)
  (case w2 => k_is)
  (case w3 => k_is)
  (case w4 => rfl)
  (case w5 => kernel_rfl)
  (case w6 => kernel_rfl)
  (case a_load_of => k_is)
  (case l_load_of => k_is)
  (case e_load_of => k_is)
  (case k_load_of => k_is)
  (case l_Line_order => k_is)
  (case e_Line_order => k_is)
  (case k_Line_order => k_is)
  (case l_Line_peak => k_is)
  (case e_Line_peak => k_is)
  (case k_Line_peak => k_is)
  (case l_Line_walk => k_is)
  (case e_Line_walk => k_is)
  (case k_Line_walk => k_is)
  (case l_Line_load => k_is)
  (case e_Line_load => k_is)
  (case k_Line_load => k_is)
  (case a_number_written => k_is)
  (case l_number_written => k_is)
  (case e_number_written => k_is)
  (case k_number_written => k_is)
  (case a_trip_written => k_is)
  (case l_trip_written => k_is)
  (case e_trip_written => k_is)
  (case k_trip_written => k_is)
  (case l_Line_readE => k_is)
  (case e_Line_readE => k_is)
  (case k_Line_readE => k_is)
  (case a_law_draw => k_is)
  (case l_law_draw => k_is)
  (case e_law_draw => k_is)
  (case k_law_draw => k_is)
  (case a_law_far => k_is)
  (case l_law_far => k_is)
  (case e_law_far => k_is)
  (case k_law_far => k_is)
  (case a_law_rides => k_is)
  (case l_law_rides => k_is)
  (case e_law_rides => k_is)
  (case k_law_rides => k_is)
  (case a_law_other_fields => k_is)
  (case l_law_other_fields => k_is)
  (case e_law_other_fields => k_is)
  (case k_law_other_fields => k_is)
  (case a_law_fields => k_is)
  (case l_law_fields => k_is)
  (case e_law_fields => k_is)
  (case k_law_fields => k_is)
  (case a_law_kind => k_is)
  (case l_law_kind => k_is)
  (case e_law_kind => k_is)
  (case k_law_kind => k_is)
  (case a_law_caught => k_is)
  (case l_law_caught => k_is)
  (case e_law_caught => k_is)
  (case k_law_caught => k_is)
  (case a_law_refused => k_is)
  (case l_law_refused => k_is)
  (case e_law_refused => k_is)
  (case k_law_refused => k_is)
  (case z3 => k_is)
  (case z4 => rfl)
  (case z5 => kernel_rfl)
  (case z6 => kernel_rfl)
  (case a_law_shows => k_is)
  (case l_law_shows => k_is)
  (case e_law_shows => k_is)
  (case k_law_shows => k_is)
  (case a_law_words => k_is)
  (case l_law_words => k_is)
  (case e_law_words => k_is)
  (case k_law_words => k_is)
  (case a_law_right4 => k_is)
  (case l_law_right4 => k_is)
  (case e_law_right4 => k_is)
  (case k_law_right4 => k_is)
  (case a_law4 => k_is)
  (case l_law4 => k_is)
  (case e_law4 => k_is)
  (case k_law4 => k_is)
  (case b_ArithmeticError => k_is)
  (case v_DIGITS => k_is)
  (case v_LETTERS => k_is)
  (case v_LONGEST_NAME => k_is)
  (case b_LookupError => k_is)
  (case v_MAX_SEATS => k_is)
  (case v_MAX_TRIPS => k_is)
  (case b_ValueError => k_is)
  (case b_abs => k_is)
  (case b_all => k_is)
  (case b_bool => k_is)
  (case b_divmod => k_is)
  (case b_enumerate => k_is)
  (case b_int => k_is)
  (case b_isinstance => k_is)
  (case b_len => k_is)
  (case b_list => k_is)
  (case b_max => k_is)
  (case b_min => k_is)
  (case b_range => k_is)
  (case b_repr => k_is)
  (case b_sorted => k_is)
  (case b_str => k_is)
  (case b_super => k_is)
  (case b_tuple => k_is)
  (case htT => exact PySem.W.km_tabs_of Y _ (by simp))
  (case tq => rfl)
  (case nl => kernel_rfl)
  (case ht => exact PySem.W.km_tabs_of Y _ (by simp)))
